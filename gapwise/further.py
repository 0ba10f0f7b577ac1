"""Rows ("row", x, y) by their firsts: in which intervals beside x the further points of y lie."""

from gapwise.codes import codes_of
from gapwise.placing import placed
from gapwise.points import code_of, is_before, merged_points
from gapwise.relating import led_row
from gapwise.values import support, value_text


class Spot:
    """A told row, and the further points of its y: needs has, for a gap and an interval in it, how many lie there."""

    def __init__(self, row, points):
        held = support(row[1])
        together = merged_points(points, held)
        beside = codes_of(held, points)
        self.row = row
        self.needs = {}
        for point in support(row[2]):
            if point not in together:
                gap = code_of(points, point) // 2
                below = len([one for one in held if is_before(one, point)])
                # Those of x's points that lie in lower gaps, or are the set's, do not part this gap.
                interval = below - len([code for code in beside if code < 2 * gap])
                self.needs[(gap, interval)] = self.needs.get((gap, interval), 0) + 1

    def fits(self, choice):
        """Whether all further points lie in the chosen intervals."""
        return all([choice[gap] == interval for gap, interval in self.needs])

    def row_at(self, x, points):
        """The row with its first led to x, alike to it over points; the further points stand anew."""
        return led_row(self.row, 1, x, points)


class Spots:
    """The told rows of a set of rows of two, by the texts of their firsts, placed over the set's points."""

    def __init__(self, many):
        self.points = many[1]
        self.groups = {}
        for row in many[2]:
            text = value_text(placed(row[1], self.points))
            self.groups.setdefault(text, []).append(Spot(row, self.points))

    def of(self, x):
        """The list of those whose firsts are alike to x; none if x is no first."""
        return list(self.groups.get(value_text(placed(x, self.points)), []))
