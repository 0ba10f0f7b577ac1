"""Lines: some values, told up to the rising maps that keep points.

A LINE is a triple: the texts of the values, placed over no points; the codes over the points of all their points, put
together; for each value the ranks of its own points among these.
"""

from gapwise.composing import codes_below, codes_beside
from gapwise.mixing import laid_together


def numbered(ranks, used):
    """The ranks, each rank told by its place among the used ones."""
    places = {used[at]: at for at in range(len(used))}
    return tuple([tuple([places[rank] for rank in row]) for row in ranks])


def used_ranks(ranks):
    """The list of the ranks that stand in some of them, ascending, each once."""
    return sorted({rank for row in ranks for rank in row})


class Way:
    """A way in which the values of two lines lie together: codes and ranks as in a line.

    small has those of the chosen ones.
    """

    def __init__(self, codes, ranks, chosen):
        self.spots = codes
        self.ranks = ranks
        chosen_ranks = tuple([ranks[at] for at in chosen])
        used = used_ranks(chosen_ranks)
        self.small = (tuple([codes[rank] for rank in used]), numbered(chosen_ranks, used))


class Loom:
    """Chooses values of lines over points, parts lines and puts them together; it keeps what hangs on no texts."""

    def __init__(self, points):
        self.points = points
        self.smalls = {}
        self.halves = {}
        self.known = {}

    def chosen(self, line, columns):
        """The line of the values in these columns."""
        texts, codes, ranks = line
        key = (codes, ranks, columns)
        if key not in self.smalls:
            self.smalls[key] = Way(codes, ranks, columns).small
        return (tuple([texts[at] for at in columns]), *self.smalls[key])

    def parted(self, line, shared, others):
        """The line of the values in the shared columns, and the one of the others.

        The codes of the second one are over the points and those of the first one, put together.
        """
        texts, codes, ranks = line
        key = (codes, ranks, shared, others)
        if key not in self.halves:
            middle = used_ranks([ranks[at] for at in shared])
            other_ranks = [ranks[at] for at in others]
            used = used_ranks(other_ranks)
            first = (tuple([codes[rank] for rank in middle]), numbered([ranks[at] for at in shared], middle))
            self.halves[key] = (first, (codes_beside(codes, used, middle), numbered(other_ranks, used)))
        first, second = self.halves[key]
        return (tuple([texts[at] for at in shared]), *first), (tuple([texts[at] for at in others]), *second)

    def ways(self, group, one, other, chosen):
        """The list of the ways in which two other parts of lines with one shared part lie together.

        The columns are those of the shared part, of the one and of the other.
        """
        key = (group[1:], one[1:], other[1:], chosen)
        if key not in self.known:
            self.known[key] = self.worked_out(group, one, other, chosen)
        return self.known[key]

    def worked_out(self, group, one, other, chosen):
        _, codes, ranks = group
        every = list(range(len(codes)))
        middle, down = codes_beside(codes, every, every), codes_below(codes, len(self.points))
        found = []
        for beside, ones, others in laid_together(one[1], other[1]):
            # The codes of the shared points are odd: there is one way to put them in.
            for whole, firsts, seconds in laid_together(middle, beside):
                columns = [tuple([firsts[rank] for rank in row]) for row in ranks]
                columns.extend([tuple([seconds[ones[rank]] for rank in row]) for row in one[2]])
                columns.extend([tuple([seconds[others[rank]] for rank in row]) for row in other[2]])
                found.append(Way(tuple([down[code] for code in whole]), tuple(columns), chosen))
        return found
