"""What any value that is handed to a judge is made of."""

from gapwise.errors import BadValue
from gapwise.reading import check_value
from gapwise.values import is_set


def is_value(value):
    """Whether any value is a value."""
    try:
        check_value(value)
    except BadValue:
        return False
    return True


def is_set_value(value):
    """Whether any value is a set."""
    return is_value(value) and is_set(value)


def are_values(value):
    """Whether any value is a tuple of one or more values, whatever its first one is."""
    return isinstance(value, tuple) and len(value) > 0 and all([is_value(part) for part in value])


def is_paper(value, word):
    """Whether any value is a tuple of two parts that begins with the word."""
    return isinstance(value, tuple) and len(value) == 2 and isinstance(value[0], str) and value[0] == word
