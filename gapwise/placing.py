"""Moves, and values placed over points."""

from gapwise.codes import codes_of, gap_counts, places_of
from gapwise.errors import BadMove
from gapwise.values import support, value_text


def moved(value, move):
    """What becomes of the value if a rising map leads each old point of the move to its new one."""
    table = {old: new for old, new in move}
    for point in support(value):
        if point not in table:
            raise BadMove()
    return led(value, table)


def led(value, table):
    """The value with each point of its support led as the table tells."""
    if isinstance(value, str):
        return value
    if value[0] == "row":
        return ("row", *[part if isinstance(part, str) else led(part, table) for part in value[1:]])
    if value[0] == "set":
        return led_set(value, table)
    return table[value]


def led_set(many, table):
    """The set led: its told members stand anew over its new points, in the order of their new texts."""
    olds = many[1]
    news = tuple([table[point] for point in olds])
    if news == olds:
        return many
    members = [replaced(member, olds, news) for member in many[2]]
    return ("set", news, tuple(by_texts(members)))


def by_texts(values):
    """The values in the order of their texts."""
    pairs = sorted([(value_text(value), value) for value in values], key=lambda pair: pair[0])
    return [value for _, value in pairs]


def replaced(value, olds, news):
    """The value that lies over news as this one lies over olds, placed."""
    points = support(value)
    places = tuple(places_of(codes_of(points, olds), news))
    return value if places == points else led(value, dict(zip(points, places)))


def placed(value, points):
    """The value that stands for all that are alike to this one over points."""
    return replaced(value, points, points)


def are_alike(points, one, other):
    """Whether a rising map that keeps the points leads one to other."""
    return placed(one, points) == placed(other, points)


def shape(value, points):
    """How many points of the value's support lie in each gap of points."""
    return gap_counts(codes_of(support(value), points), len(points))
