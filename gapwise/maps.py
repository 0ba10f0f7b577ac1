"""Sets of pairs, and maps."""

from gapwise.algebra import joined_points, outside
from gapwise.composing import composed
from gapwise.errors import NoMember
from gapwise.families import least, opened
from gapwise.mixing import MOST
from gapwise.placing import by_texts, led, placed
from gapwise.points import between, merged_points
from gapwise.products import firsts, seconds
from gapwise.relating import alike_row, beside, is_pair, led_row
from gapwise.values import support, value_text


def judge_map(many, one, other):
    """What keeps a set from being a map from one into other, None if nothing does."""
    for row in many[2]:
        if not is_pair(row):
            return ("pairs", row)
    lacking = outside(one, firsts(many))
    if lacking is not None:
        return ("lacks", lacking)
    twice = two_seconds(many)
    if twice is not None:
        return ("twice", *twice)
    for at, strange in ((1, outside(firsts(many), one)), (2, outside(seconds(many), other))):
        if strange is not None:
            row = alike_row(many, at, strange)
            return ("outside", row[1], row[2])
    return None


def two_seconds(pairs):
    """A first with two unlike seconds of it, None if each first has one alone."""
    points, known = pairs[1], {}
    for _, x, y in pairs[2]:
        held = merged_points(points, support(x))
        for point in support(y):
            if point not in held:
                return (x, y, with_point_led(y, point, merged_points(held, support(y))))
        # All points of the row are the set's or x's, so x is placed as the row is.
        text = value_text(x)
        if text in known:
            return (x, known[text], y)
        known[text] = y
    return None


def with_point_led(value, point, points):
    """The value with the point, one of points, led a bit upwards, to before the next one of points."""
    at = points.index(point)
    higher = between(point, points[at + 1], 1, 2) if at + 1 < len(points) else (point[0] + point[1], point[1])
    table = {one: one for one in points}
    table[point] = higher
    return led(value, table)


def value_at(mapping, value):
    """The value of a map at a value."""
    wanted = placed(value, mapping[1])
    for row in mapping[2]:
        # In a map the told rows have placed firsts.
        if row[1] == wanted:
            return led_row(row, 1, value, mapping[1])[2]
    raise NoMember(value)


def image(pairs, many):
    """The set of all seconds of those pairs whose first is a member."""
    return beside(pairs, 1, opened(many), MOST).plain()


def identity(many):
    """The map that has at each member this member."""
    return ("set", many[1], tuple(by_texts([("row", member, member) for member in many[2]])))


def then(first, second):
    """The set of all pairs that hang together by a value that is second in one of first and first in one of second."""
    points = joined_points(first, second)
    return least(points, composed(first, second, points)).plain()


def back(pairs):
    """The set of all pairs turned about."""
    return ("set", pairs[1], tuple(by_texts([("row", y, x) for _, x, y in pairs[2]])))


def one_to_one(mapping):
    """Two unlike values at which the map has one value, None if there are none."""
    twice = two_seconds(back(mapping))
    return None if twice is None else (twice[1], twice[2])


def onto(mapping, many):
    """A member that is no value of the map, None if there is none."""
    return outside(many, seconds(mapping))
