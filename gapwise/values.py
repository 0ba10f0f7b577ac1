"""Values: words, points, rows and sets; their supports, depths and texts."""

from gapwise.points import merged_points


def is_word(value):
    """Whether any value is a word."""
    if not isinstance(value, str) or not 1 <= len(value) <= 8:
        return False
    return value.isascii() and value.isalpha() and value.islower()


def is_set(value):
    """Whether a value is a set."""
    return isinstance(value, tuple) and value[0] == "set"


def is_row(value):
    """Whether a value is a row."""
    return isinstance(value, tuple) and value[0] == "row"


def support(value):
    """The ascending tuple of the points that the value hangs on."""
    if isinstance(value, str):
        return ()
    if value[0] == "set":
        return value[1]
    if value[0] != "row":
        return (value,)
    found = ()
    for part in value[1:]:
        if not isinstance(part, str):
            found = merged_points(found, support(part))
    return found


def depth(value):
    """How many rows and sets stand within one another in the value."""
    if is_row(value):
        return 1 + max([depth(part) for part in value[1:]])
    if is_set(value):
        return 1 + max([depth(member) for member in value[2]], default=0)
    return 0


def value_text(value):
    """The text of the value."""
    if isinstance(value, str):
        return value
    if value[0] == "row":
        return "<" + " ".join([part if isinstance(part, str) else value_text(part) for part in value[1:]]) + ">"
    if value[0] == "set":
        points = " ".join([value_text(point) for point in value[1]])
        members = " ".join([value_text(member) for member in value[2]])
        return "{" + points + "|" + members + "}"
    p, q = value
    return str(p) if q == 1 else f"{p}/{q}"
