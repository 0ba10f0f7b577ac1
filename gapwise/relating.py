"""Rows of two: the keys of their two parts, and rows led so that one part becomes a value."""

from gapwise.codes import passage
from gapwise.families import built, least, opened
from gapwise.making import is_in
from gapwise.mixing import check_many
from gapwise.placing import placed, replaced
from gapwise.points import merged_points
from gapwise.values import is_row, support, value_text


def is_pair(value):
    """Whether a value is a row of two."""
    return is_row(value) and len(value) == 3


class Half:
    """One part of the rows with a skeleton: its own skeleton, its text, and which of the row's points it has."""

    def __init__(self, part):
        self.skeleton = placed(part, ())
        self.text = value_text(self.skeleton)
        # In a row's skeleton the points are 0, 1, .. .
        self.ranks = [rank for rank, _ in support(part)]

    def key(self, codes):
        """The part's key, where the row has these codes."""
        return (self.text, tuple([codes[rank] for rank in self.ranks]))


class Ties:
    """The orbits of rows of two over points, among which the points of their set are: keys, and those of both parts.

    orbits is a list of triples of the key of the row, of the first and of the second part.
    """

    def __init__(self, many, points):
        self.points = points
        self.halves = {}
        self.skeletons = {}
        self.orbits = []
        family = opened(many)
        table, way = family.table(), passage(many[1], points)
        for key in table:
            text, codes = key
            if text not in self.halves:
                row = table[key]
                self.skeletons[text] = row
                self.halves[text] = (Half(row[1]), Half(row[2]))
            first, second = self.halves[text]
            for finer in way.finer(codes):
                self.orbits.append(((text, finer), first.key(finer), second.key(finer)))


def alike_row(many, at, value):
    """A row of a set of rows of two whose part at this place is the value, None if there is none."""
    points = many[1]
    wanted = placed(value, points)
    for row in many[2]:
        if placed(row[at], points) == wanted:
            return led_row(row, at, value, points)
    return None


def led_row(row, at, value, points):
    """The row led, points staying, so that its part at this place, alike over points to the value, becomes it."""
    return replaced(row, merged_points(points, support(row[at])), merged_points(points, support(value)))


class Inside:
    """Tells of keys over points, among which the family's points are, whether they are of members."""

    def __init__(self, family, points):
        self.family = family
        self.way = passage(points, family.points)
        self.known = {}

    def has(self, key, skeleton):
        if key not in self.known:
            self.known[key] = self.family.has_key((key[0], self.way.coarse(key[1])), skeleton)
        return self.known[key]


def is_tied(web, one, other):
    """Whether the row of the two is a member of a web."""
    return is_in(("row", one, other), web)


def tie_between(web, one, has_first, other, has_second):
    """The two values of a tie of a web, None if there is none such.

    Its first value is a member of the family one, or is none, as has_first tells; so for the second one and other.
    """
    points = merged_points(web[1], merged_points(one.points, other.points))
    firsts, seconds = Inside(one, points), Inside(other, points)
    for row in web[2]:
        ties = Ties(("set", web[1], (row,)), points)
        for key, first, second in ties.orbits:
            half, further = ties.halves[key[0]]
            if (firsts.has(first, half.skeleton) == has_first
                    and seconds.has(second, further.skeleton) == has_second):
                tie = built(ties.skeletons[key[0]], key[1], points)
                return tie[1], tie[2]
    return None


def beside(pairs, at, family, most):
    """The family of what stands in a row of two beside a member of a family, which is the row's part number at.

    Most is the greatest number of orbits told.
    """
    points = merged_points(pairs[1], family.points)
    inside, ties, found = Inside(family, points), Ties(pairs, points), {}
    for key, *parts in ties.orbits:
        halves = ties.halves[key[0]]
        part = parts[2 - at]
        if part not in found and inside.has(parts[at - 1], halves[at - 1].skeleton):
            found[part] = halves[2 - at].skeleton
            check_many(len(found), most)
    return least(points, found)
