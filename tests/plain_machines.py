"""Machines made from a seed, and what is to tell of them worked out value by value, straight from the words."""

from gapwise.algebra import join
from gapwise.making import is_in, made, orbits
from gapwise.maps import value_at
from gapwise.placing import placed
from gapwise.points import merged_points
from gapwise.products import pairs
from gapwise.values import support, value_text
from tests.helping import ascending, some_points
from tests.relations import ONE, ZERO, chosen_points

LETTER_SETS = [[ZERO], [ZERO], ["a"], ["a", "b"], [ZERO, "a"], [("row", "a", ZERO), "b"], [("row", "a", ZERO), ("row", "b", ZERO)]]
PLACES = ["a", "b", "c", ZERO, ZERO, ("row", "a", ZERO), ("row", ZERO, ONE), ("row", ONE, ZERO), ("row", "b", ONE, ZERO), ("set", (), ((0, 1),)), ("set", (ZERO,), (ONE,))]


def all_points(*machines):
    """The points of all parts, put together."""
    return ascending([point for machine in machines for part in machine for point in support(part)])


def some_letters(chance, points):
    many = made((), chance.choice(LETTER_SETS))
    if not points or chance.random() < 0.5:
        return many
    parts = orbits(many, points)
    return made(points, chance.sample(parts, chance.choice(range(1, min(4, len(parts)) + 1))))


def some_machine(chance, points, letters, fewer=False):
    """A right machine whose sets have points, or fewer, with these letters; its start has at most these, too."""
    start = chance.choice(["a", "b", *points, *[("row", "a", point) for point in points]])
    chosen = [start, *chance.sample(PLACES, chance.choice([1, 2] if fewer else [1, 2, 3, 4]))]
    own = points if chance.random() < 0.5 else ()
    whole = made((), chosen)
    parts = orbits(whole, own)
    places = made(own, chance.sample(parts, chance.choice(range(1, len(parts) + 1))))
    places = join(places, made(points, [start])) if not is_in(start, places) else places
    rows, tops = [], orbits(places, points)
    for row in orbits(pairs(places, letters), points):
        ends = [chosen_points(chance, row, points, top) for top in tops]
        ends = [end for end in ends if end is not None]
        rows.append(("row", row[1], row[2], chance.choice(ends)))
    ends = made(points, [top for top in tops if chance.random() < 0.4])
    return (letters, places, start, made(points, rows), ends)


def some_machines(chance, many, fewer=False):
    """So many machines with one set of letters, with at most one point in all."""
    points = some_points(chance, chance.choice([0, 0, 1]))
    letters = some_letters(chance, points)
    return [some_machine(chance, points, letters, fewer) for _ in range(many)]


def as_map(machine):
    """The map that has at each row of a place and a letter the place behind."""
    return made(machine[3][1], [("row", ("row", p, a), q) for _, p, a, q in machine[3][2]])


class Plain:
    """A machine worked out value by value, over points among which all of its parts' are."""

    def __init__(self, machine, points):
        self.machine = machine
        self.points = points
        self.moves = as_map(machine)

    def behind(self, place, letter):
        return value_at(self.moves, ("row", place, letter))

    def letters_at(self, *values):
        held = self.points
        for value in values:
            held = merged_points(held, support(value))
        return orbits(self.machine[0], held)

    def is_end(self, place):
        return is_in(place, self.machine[4])

    def walk(self, word):
        walk = [self.machine[2]]
        for letter in word:
            walk.append(self.behind(walk[-1], letter))
        return walk

    def levels(self):
        """For each number of letters the values, placed, to which no shorter word leads from the start."""
        levels, known = [[placed(self.machine[2], self.points)]], {}
        while levels[-1]:
            for value in levels[-1]:
                known[value_text(value)] = True
            further = {}
            for value in levels[-1]:
                for letter in self.letters_at(value):
                    end = placed(self.behind(value, letter), self.points)
                    if value_text(end) not in known:
                        further[value_text(end)] = end
            levels.append(list(further.values()))
        return levels[:-1]


def pair_levels(one, other):
    """For each number of letters the rows of places, placed, to which no shorter word leads from the two starts."""
    points = one.points
    first = placed(("row", one.machine[2], other.machine[2]), points)
    levels, known = [[first]], {value_text(first): True}
    while levels[-1]:
        further = []
        for row in levels[-1]:
            for letter in one.letters_at(row):
                end = placed(("row", one.behind(row[1], letter), other.behind(row[2], letter)), points)
                if value_text(end) not in known:
                    known[value_text(end)] = True
                    further.append(end)
        levels.append(further)
    return levels[:-1]


def classes(plain, many):
    """A function that tells whether two members of a set of places are one: pairs are parted until none is any more."""
    points = plain.points
    same = {value_text(row): row for row in orbits(pairs(many, many), points) if plain.is_end(row[1]) == plain.is_end(row[2])}
    ends = {}
    for text, row in same.items():
        ends[text] = [value_text(placed(("row", plain.behind(row[1], letter), plain.behind(row[2], letter)), points)) for letter in plain.letters_at(row)]
    changed = True
    while changed:
        parted = [text for text in same if any(end not in same for end in ends[text])]
        for text in parted:
            del same[text]
        changed = bool(parted)
    return lambda one, other: value_text(placed(("row", one, other), points)) in same


def some_word(chance, machine, many):
    """A word of so many letters, whose points are near those of the machine and often the same."""
    letters = []
    for _ in range(many):
        held = merged_points(all_points(machine), tuple(some_points(chance, 3)))
        tops = [top for top in orbits(machine[0], held) if set(support(top)) <= set(held)]
        letters.append(chance.choice(tops or orbits(machine[0], held)))
    return letters


def two_plain(one, other):
    points = all_points(one, other)
    return Plain(one, points), Plain(other, points)
