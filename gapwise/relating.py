"""Rows of two: the keys of their two parts, and rows led so that one part becomes a value."""

from gapwise.codes import passage
from gapwise.families import built, opened
from gapwise.making import is_in
from gapwise.placing import placed, replaced
from gapwise.points import merged_points
from gapwise.values import is_row, support, value_text


def is_pair(value):
    """Whether a value is a row of two."""
    return is_row(value) and len(value) == 3


class Half:
    """One part of the rows with a skeleton: its own skeleton, its text, and which of the row's points it has."""

    def __init__(self, part):
        self.skeleton = placed(part, ())
        self.text = value_text(self.skeleton)
        # In a row's skeleton the points are 0, 1, .. .
        self.ranks = [rank for rank, _ in support(part)]

    def key(self, codes):
        """The part's key, where the row has these codes."""
        return (self.text, tuple([codes[rank] for rank in self.ranks]))


class Ties:
    """The orbits of rows of two over points, among which the points of their set are: keys, and those of both parts.

    orbits is a list of triples of the key of the row, of the first and of the second part.
    """

    def __init__(self, many, points):
        self.points = points
        self.halves = {}
        self.skeletons = {}
        self.orbits = []
        family = opened(many)
        table, way = family.table(), passage(many[1], points)
        for key in table:
            text, codes = key
            if text not in self.halves:
                row = table[key]
                self.skeletons[text] = row
                self.halves[text] = (Half(row[1]), Half(row[2]))
            first, second = self.halves[text]
            for finer in way.finer(codes):
                self.orbits.append(((text, finer), first.key(finer), second.key(finer)))


def alike_row(many, at, value):
    """A row of a set of rows of two whose part at this place is the value, None if there is none."""
    points = many[1]
    wanted = placed(value, points)
    for row in many[2]:
        if placed(row[at], points) == wanted:
            return led_row(row, at, value, points)
    return None


def led_row(row, at, value, points):
    """The row led, points staying, so that its part at this place, alike over points to the value, becomes it."""
    return replaced(row, merged_points(points, support(row[at])), merged_points(points, support(value)))


class Inside:
    """Tells of keys over points, among which the set's points are, whether they are of members."""

    def __init__(self, many, points):
        self.family = opened(many)
        self.way = passage(points, many[1])
        self.known = {}

    def has(self, key, skeleton):
        if key not in self.known:
            self.known[key] = self.family.has_key((key[0], self.way.coarse(key[1])), skeleton)
        return self.known[key]


def is_tied(web, one, other):
    """Whether the row of the two is a member of a web."""
    return is_in(("row", one, other), web)


def leading_out(web, many):
    """The two values of a tie that leads out of a set, None if there is none."""
    points = merged_points(web[1], many[1])
    inside = Inside(many, points)
    for row in web[2]:
        ties = Ties(("set", web[1], (row,)), points)
        for key, first, second in ties.orbits:
            one, other = ties.halves[key[0]]
            if inside.has(first, one.skeleton) and not inside.has(second, other.skeleton):
                led = built(ties.skeletons[key[0]], key[1], points)
                return led[1], led[2]
    return None
