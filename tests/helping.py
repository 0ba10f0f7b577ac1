"""What several tests need: strict likeness of any values, and values of many sorts made from a seed."""

import random

from gapwise.making import made
from gapwise.points import make_point, merged_points

HALVES = [make_point(k, 2) for k in range(-4, 5)]


def is_same_thing(one, other):
    """Whether two values are equal and made of the same classes: True is not 1, a list is no tuple."""
    if one.__class__ is not other.__class__:
        return False
    if isinstance(one, (tuple, list)):
        return len(one) == len(other) and all(is_same_thing(x, y) for x, y in zip(one, other))
    if isinstance(one, dict):
        return list(one) == list(other) and all(is_same_thing(one[k], other[k]) for k in one)
    return one == other


def copy_of(value):
    if isinstance(value, list):
        return [copy_of(part) for part in value]
    if isinstance(value, tuple):
        return tuple(copy_of(part) for part in value)
    if isinstance(value, dict):
        return {key: copy_of(part) for key, part in value.items()}
    return value


def ascending(points):
    found = ()
    for point in points:
        found = merged_points(found, (point,))
    return found


def some_points(chance, many):
    return ascending(chance.sample(HALVES, many))


def some_value(chance, deep):
    """A value at most so deep."""
    draw = chance.random()
    if deep == 0 or draw < 0.35:
        return chance.choice("ab") if chance.random() < 0.15 else chance.choice(HALVES)
    if draw < 0.75:
        return ("row", *[some_value(chance, deep - 1) for _ in range(chance.choice([1, 2, 2, 2, 3]))])
    return some_set(chance, deep - 1)


def some_set(chance, deep):
    """A set whose members are at most so deep."""
    points = some_points(chance, chance.choice([0, 1, 1, 2]))
    return made(points, [some_value(chance, deep) for _ in range(chance.choice([0, 1, 1, 2, 3]))])


def seeded(seed):
    return random.Random(seed)
