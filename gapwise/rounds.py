"""How maps of a set into itself come round.

Over the points of such a map it leads each orbit of its firsts to one of them; the value's other points are some of the
first's. So its powers are told by a course through finitely many orbits.
"""

from math import lcm

from gapwise.making import made
from gapwise.maps import value_at
from gapwise.placing import led, placed
from gapwise.values import support, value_text


class Course:
    """The orbits of a map's firsts: what stands for them, where they lead, and how they come round.

    steps has for each the number of the next orbit, and the numbers of those of its points beside the map's that are
    the points of the value there. ahead tells how many steps lead it to one that comes back, lengths the length of
    each one that does.
    """

    def __init__(self, mapping):
        self.points = mapping[1]
        self.firsts = [row[1] for row in mapping[2]]
        numbers = {value_text(self.firsts[at]): at for at in range(len(self.firsts))}
        self.steps = []
        for _, x, y in mapping[2]:
            held = self.beside(x)
            chosen = tuple([held.index(point) for point in self.beside(y)])
            self.steps.append((numbers[value_text(placed(y, self.points))], chosen))
        self.ahead = {}
        self.lengths = {}
        for at in range(len(self.steps)):
            self.follow(at)

    def beside(self, value):
        """The list of the value's points that are not the map's."""
        return [point for point in support(value) if point not in self.points]

    def follow(self, at):
        """Goes from an orbit to one that is known, or met again, and tells what is to tell of those on the way."""
        way, met = [], {}
        while at not in self.ahead and at not in met:
            met[at] = len(way)
            way.append(at)
            at = self.steps[at][0]
        if at in met:
            for one in way[met[at]:]:
                self.ahead[one] = 0
                self.lengths[one] = len(way) - met[at]
            way = way[:met[at]]
        while way:
            one = way.pop()
            self.ahead[one] = self.ahead[self.steps[one][0]] + 1

    def tail(self):
        return max([self.ahead[at] for at in self.ahead], default=0)

    def set_of(self, numbers):
        """The set of all members of the orbits with these numbers."""
        return made(self.points, [self.firsts[at] for at in numbers])

    def rows_of(self, steps):
        """The map, as a set, that takes these steps."""
        rows = []
        for at in range(len(steps)):
            to, chosen = steps[at]
            held, value = self.beside(self.firsts[at]), self.firsts[to]
            table = {point: point for point in self.points}
            for point, number in zip(self.beside(value), chosen):
                table[point] = held[number]
            rows.append(("row", self.firsts[at], led(value, table)))
        return made(self.points, rows)


def after(steps, others):
    """The steps, and then the others, as steps."""
    found = []
    for to, chosen in steps:
        end, numbers = others[to]
        found.append((end, tuple([chosen[number] for number in numbers])))
    return found


def power(mapping, n):
    """Power n of a map."""
    course = Course(mapping)
    steps = [(at, tuple(range(len(course.beside(course.firsts[at]))))) for at in range(len(course.firsts))]
    twofold = course.steps
    while n > 0:
        if n % 2 == 1:
            steps = after(steps, twofold)
        twofold = after(twofold, twofold)
        n = n // 2
    return course.rows_of(steps)


def come_round(mapping):
    """The least number of a power that comes again, and after how many more it does."""
    course = Course(mapping)
    period = 1
    for at in course.lengths:
        period = lcm(period, course.lengths[at])
    return (course.tail(), period)


def track(mapping, value):
    """The values that a map has one behind the other from a value on: those ahead of the ring, and the ring."""
    walk, met = [], {}
    text = value_text(value)
    while text not in met:
        met[text] = len(walk)
        walk.append(value)
        value = value_at(mapping, value)
        text = value_text(value)
    return (tuple(walk[:met[text]]), tuple(walk[met[text]:]))


def heart(mapping):
    """The set of all members that come back."""
    course = Course(mapping)
    return course.set_of(list(course.lengths))


def lengths(mapping):
    """The list of pairs of a length and the set of all members with this length."""
    course, groups = Course(mapping), {}
    for at in course.lengths:
        groups.setdefault(course.lengths[at], []).append(at)
    return [(length, course.set_of(groups[length])) for length in sorted(groups)]


def levels(mapping):
    """The list of the sets of all members that so many steps, and no fewer, lead to one that comes back."""
    course = Course(mapping)
    groups = [[] for _ in range(course.tail() + 1)]
    for at in course.ahead:
        groups[course.ahead[at]].append(at)
    return [course.set_of(group) for group in groups]


def fixed(mapping):
    """The set of all members at which the map has this very member."""
    course = Course(mapping)
    return course.set_of([at for at in course.lengths if course.lengths[at] == 1])
