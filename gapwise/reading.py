"""Any values checked, and texts read back."""

from gapwise.errors import BadText, BadValue
from gapwise.making import made
from gapwise.points import is_ascending, is_point
from gapwise.values import depth, is_word

DEEPEST = 4
FIGURES = 30
LETTERS = 8


def check_value(value):
    """Raises BadValue with the path to the first thing that is wrong, if any value is no value."""
    path = value_fault(value)
    if path is not None:
        raise BadValue(path)
    if depth(value) > DEEPEST:
        raise BadValue(())


def value_fault(value):
    """The path to the first thing that is wrong, whatever the depth; None if there is none."""
    if isinstance(value, str):
        return None if is_word(value) else ()
    if isinstance(value, tuple) and value and isinstance(value[0], str):
        if value[0] == "row":
            return row_fault(value)
        if value[0] == "set":
            return set_fault(value)
    return None if is_point(value) else ()


def row_fault(value):
    if not 2 <= len(value) <= 5:
        return ()
    for at in range(1, len(value)):
        path = value_fault(value[at])
        if path is not None:
            return (at, *path)
    return None


def set_fault(value):
    if len(value) != 3 or not are_points(value[1]) or not isinstance(value[2], tuple):
        return ()
    for at in range(len(value[2])):
        path = value_fault(value[2][at])
        if path is not None:
            return (2, at, *path)
    return None if made(value[1], value[2]) == value else ()


def are_points(value):
    """Whether any value is an ascending tuple of points."""
    return isinstance(value, tuple) and all([is_point(point) for point in value]) and is_ascending(value)


def read_value(text):
    """The value of which any value is the text."""
    if not isinstance(text, str):
        raise BadText(0)
    reader = Reader(text)
    value = reader.read_part(0)
    if reader.spot < len(text):
        raise BadText(reader.spot)
    check_value(value)
    return value


class Reader:
    """Reads a text from a spot on, and moves the spot behind what it has read.

    It raises BadText with the place of the first character that can't stand there.
    """

    def __init__(self, text):
        self.text = text
        self.spot = 0

    def sees(self, low, high):
        """Whether the next character is one from low to high."""
        return self.spot < len(self.text) and low <= self.text[self.spot] <= high

    def take(self, mark):
        """Goes on behind the mark if it comes next, and tells whether it does."""
        if not self.sees(mark, mark):
            return False
        self.spot += 1
        return True

    def need(self, mark):
        if not self.take(mark):
            raise BadText(self.spot)

    def read_part(self, around):
        """The next value, with so many rows and sets around it."""
        if self.sees("a", "z"):
            return self.read_word()
        if around < DEEPEST and self.take("<"):
            return self.read_row(around + 1)
        if around < DEEPEST and self.take("{"):
            return self.read_set(around + 1)
        return self.read_point()

    def read_word(self):
        start = self.spot
        while self.sees("a", "z") and self.spot < start + LETTERS:
            self.spot += 1
        return self.text[start:self.spot]

    def read_row(self, around):
        parts = [self.read_part(around)]
        while len(parts) < 4 and self.take(" "):
            parts.append(self.read_part(around))
        self.need(">")
        return ("row", *parts)

    def read_set(self, around):
        points, members = [], []
        if not self.take("|"):
            points.append(self.read_point())
            while self.take(" "):
                points.append(self.read_point())
            self.need("|")
        if not self.take("}"):
            members.append(self.read_part(around))
            while self.take(" "):
                members.append(self.read_part(around))
            self.need("}")
        return ("set", tuple(points), tuple(members))

    def read_point(self):
        if self.take("-"):
            p = -self.read_number("1")
        else:
            p = self.read_number("0")
        if not self.take("/"):
            return (p, 1)
        q = self.read_number("1")
        if q == 1:
            # The figure 1 was right as the beginning of a longer number, so it is what comes next that is wrong.
            raise BadText(self.spot)
        return (p, q)

    def read_number(self, least):
        """The next number, without leading zeros; its first figure is from least on."""
        if not self.sees(least, "9"):
            raise BadText(self.spot)
        start = self.spot
        self.spot += 1
        if self.text[start] != "0":
            while self.sees("0", "9") and self.spot < start + FIGURES:
                self.spot += 1
        return int(self.text[start:self.spot])
