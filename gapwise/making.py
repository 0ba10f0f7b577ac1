"""Sets made of values, in their one form; their orbits and members."""

from gapwise.errors import NoPoint
from gapwise.families import built, least, opened, ordered, refined, splits, table_of, without
from gapwise.placing import placed
from gapwise.points import is_point, merged_points

EMPTY = ("set", (), ())
LINE = ("set", (), ((0, 1),))


def made(points, values):
    """The set of all values that are alike over points to one of values."""
    return least(points, table_of(points, values)).plain()


def orbits(value, points):
    """The list of the values that stand for the orbits of a set over its points and further ones."""
    joined = merged_points(value[1], points)
    return ordered(joined, refined(opened(value), joined))


def is_in(value, many):
    """Whether a value is a member of a set."""
    return placed(value, many[1]) in many[2]


def needed(many, point):
    """A member of a set and a value that is none, alike over the set's points but this one."""
    if not is_point(point) or point not in many[1]:
        raise NoPoint(point)
    points, table = many[1], opened(many).table()
    at = points.index(point)
    # In its one form the set lacks a key beside one that it has, or the point would have been left out.
    lacking = [(one, codes) for one in table for codes in splits(without(one[1], at), at)
               if (one[0], codes) not in table]
    key, lacked = lacking[0]
    skeleton = table[key]
    return (built(skeleton, key[1], points), built(skeleton, lacked, points))
