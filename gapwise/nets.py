"""Nets: the ties of a web between the orbits of its places over points, and walks through them."""

from gapwise.families import built, keyed, least
from gapwise.relating import Ties, led_row


class Net:
    """The ties of a web over points, among which the web's points are.

    From a value all of whose points are among these, a walk leads to all values of an orbit or to none, and the
    shortest walks to them have as many steps.
    """

    def __init__(self, web, points):
        self.points = points
        self.ties = Ties(web, points)
        self.onward = {}
        self.skeletons = {}
        for row_key, first, second in self.ties.orbits:
            self.onward.setdefault(first, []).append((second, row_key))
            halves = self.ties.halves[row_key[0]]
            self.skeletons[first] = halves[0].skeleton
            self.skeletons[second] = halves[1].skeleton

    def search(self, x):
        """The walks from a value: a Search."""
        key, skeleton = keyed(x, self.points)
        return Search(self, key, skeleton)

    def value_of(self, key):
        """The value that stands for an orbit of places."""
        return built(self.skeletons[key], key[1], self.points)

    def row_of(self, row_key):
        """The row that stands for an orbit of ties."""
        text, codes = row_key
        return built(self.ties.skeletons[text], codes, self.points)

    def walk_along(self, start, row_keys):
        """A walk that begins with a value of an orbit, along ties of which each begins where the last one ends."""
        walk = [start]
        for row_key in row_keys:
            walk.append(led_row(self.row_of(row_key), 1, walk[-1], self.points)[2])
        return tuple(walk)


class Search:
    """How walks from a value lead to orbits, the nearest ones first.

    steps has the fewest steps to each orbit that is reached, the nearest ones first, lasts the last tie of such a walk.
    again has the orbits to which a walk of one step or more leads, closing the last tie of a shortest one of these back
    to the value itself, None if there is none.
    """

    def __init__(self, net, start, skeleton):
        self.net = net
        self.start = start
        self.skeleton = skeleton
        self.steps = {start: 0}
        self.lasts = {}
        self.again = {}
        self.closing = None
        level = [start]
        while level:
            further = []
            for first in level:
                for second, row_key in net.onward.get(first, []):
                    self.again[second] = True
                    if second == start and self.closing is None:
                        self.closing = row_key
                    if second not in self.steps:
                        self.steps[second] = self.steps[first] + 1
                        self.lasts[second] = row_key
                        further.append(second)
            level = further

    def reached(self):
        """The set of all values that are reached."""
        table = {key: self.net.skeletons.get(key, self.skeleton) for key in self.steps}
        return least(self.net.points, table).plain()

    def steps_to(self, y):
        """The fewest steps to a value, None if it is not reached."""
        key, _ = keyed(y, self.net.points)
        return self.steps.get(key)

    def walk_to(self, y):
        """A shortest walk to a value that is reached: each tie is led to end where the next one begins."""
        points, ties = self.net.points, self.net.ties
        walk = [y]
        key, _ = keyed(y, points)
        while self.steps[key] > 0:
            text, codes = self.lasts[key]
            walk.append(led_row(self.net.row_of((text, codes)), 2, walk[-1], points)[1])
            key = ties.halves[text][0].key(codes)
        return tuple(walk[::-1])

    def ring(self):
        """The values of a shortest walk back to the value, if there is one, each once."""
        return self.walk_to(self.net.row_of(self.closing)[1])

    def level_tie(self):
        """The nearest tie between two values that are as many steps away, None if there is none."""
        for first in self.steps:
            for second, row_key in self.net.onward.get(first, []):
                if self.steps[first] == self.steps[second]:
                    return row_key
        return None
