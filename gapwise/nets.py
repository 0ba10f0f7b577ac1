"""Nets: the ties of a web between the orbits of its places over points, and walks through them."""

from gapwise.families import built, keyed, least
from gapwise.relating import Ties, led_row


class Net:
    """The ties of a web over points, among which the web's points are.

    From a value all of whose points are among these, a walk leads to all values of an orbit or to none, and the
    shortest walks to them have as many steps.
    """

    def __init__(self, web, points):
        self.points = points
        self.ties = Ties(web, points)
        self.onward = {}
        self.skeletons = {}
        for row_key, first, second in self.ties.orbits:
            self.onward.setdefault(first, []).append((second, row_key))
            halves = self.ties.halves[row_key[0]]
            self.skeletons[first] = halves[0].skeleton
            self.skeletons[second] = halves[1].skeleton

    def search(self, x):
        """The walks from a value: a Search."""
        key, skeleton = keyed(x, self.points)
        return Search(self, key, skeleton)

    def value_of(self, key):
        """The value that stands for an orbit of places."""
        return built(self.skeletons[key], key[1], self.points)


class Search:
    """How walks from a value lead to orbits, the nearest ones first.

    steps has the fewest steps to each orbit that is reached, lasts the last tie of such a walk. again has the orbits to
    which a walk of one step or more leads.
    """

    def __init__(self, net, start, skeleton):
        self.net = net
        self.start = start
        self.skeleton = skeleton
        self.steps = {start: 0}
        self.lasts = {}
        self.again = {}
        level = [start]
        while level:
            further = []
            for first in level:
                for second, row_key in net.onward.get(first, []):
                    self.again[second] = True
                    if second not in self.steps:
                        self.steps[second] = self.steps[first] + 1
                        self.lasts[second] = row_key
                        further.append(second)
            level = further

    def reached(self):
        """The set of all values that are reached."""
        table = {key: self.net.skeletons.get(key, self.skeleton) for key in self.steps}
        return least(self.net.points, table).plain()

    def steps_to(self, y):
        """The fewest steps to a value, None if it is not reached."""
        key, _ = keyed(y, self.net.points)
        return self.steps.get(key)

    def walk_to(self, y):
        """A shortest walk to a value that is reached: each tie is led to end where the next one begins."""
        points, ties = self.net.points, self.net.ties
        walk = [y]
        key, _ = keyed(y, points)
        while self.steps[key] > 0:
            text, codes = self.lasts[key]
            row = built(ties.skeletons[text], codes, points)
            walk.append(led_row(row, 2, walk[-1], points)[1])
            key = ties.halves[text][0].key(codes)
        return tuple(walk[::-1])
