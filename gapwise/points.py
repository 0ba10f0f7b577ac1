"""Points of the line: pairs of integers in lowest terms, compared as fractions."""

from math import gcd

from gapwise.errors import BadPoint


def make_point(p, q):
    """The point of the fraction p / q."""
    if q == 0:
        raise BadPoint(p, q)
    common = gcd(p, q) if q > 0 else -gcd(p, q)
    return (p // common, q // common)


def is_number(value):
    """Whether any value is an integer, and not True or False."""
    return isinstance(value, int) and not isinstance(value, bool)


def is_point(value):
    """Whether any value is a point."""
    if not isinstance(value, tuple) or len(value) != 2:
        return False
    p, q = value
    return is_number(p) and is_number(q) and q >= 1 and gcd(p, q) == 1


def is_before(one, other):
    """Whether the first point is less than the second one."""
    return one[0] * other[1] < other[0] * one[1]


def is_ascending(points):
    """Whether each point is less than the next one."""
    return all([is_before(points[k], points[k + 1]) for k in range(len(points) - 1)])


def code_of(points, point):
    """2 * k for a point in gap k of points, 2 * k + 1 for points[k] itself."""
    low, high = 0, len(points)
    while low < high:
        middle = (low + high) // 2
        if is_before(points[middle], point):
            low = middle + 1
        else:
            high = middle
    if low < len(points) and points[low] == point:
        return 2 * low + 1
    return 2 * low


def gap_of(points, point):
    """The number of the gap of points in which the point lies, None if it is one of them."""
    code = code_of(points, point)
    return None if code % 2 else code // 2


def merged_points(one, other):
    """The points of two ascending tuples, ascending, each once."""
    if not other or one == other:
        return one
    if not one:
        return other
    found = list(one)
    for point in other:
        code = code_of(found, point)
        if code % 2 == 0:
            found.insert(code // 2, point)
    return tuple(found)


def spread(points, gap, n):
    """The spread places of n points in a gap, ascending."""
    if not points:
        return [(i, 1) for i in range(n)]
    if gap == 0:
        p, q = points[0]
        return [(p + (i - n) * q, q) for i in range(n)]
    if gap == len(points):
        p, q = points[-1]
        return [(p + (i + 1) * q, q) for i in range(n)]
    return [between(points[gap - 1], points[gap], i, n + 1) for i in range(1, n + 1)]


def between(low, high, part, parts):
    """The point that lies so many parts of the way from low to high."""
    start = low[0] * high[1]
    way = high[0] * low[1] - start
    return make_point(start * parts + way * part, low[1] * high[1] * parts)
