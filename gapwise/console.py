"""Consoles: lines of text that say what is done in a house, and what is asked of it."""

from gapwise.deeds import PARTS, deed_text, read_deed, read_points, read_safely
from gapwise.errors import BadLine, LineError, NoSet, NotThere, UnknownName
from gapwise.house import House
from gapwise.making import is_in
from gapwise.reading import read_value
from gapwise.samples import count
from gapwise.values import is_set, is_word, value_text

FIGURES = 30


class Console:
    """A house of its own, and what is said to it."""

    def __init__(self):
        self._house = House()

    def house(self):
        return self._house

    def say(self, line):
        """Does what a line, any value, says; the answer is told."""
        try:
            return answer_to(self._house, line)
        except (LineError, NotThere) as e:
            return "no " + e.called


def answer_to(house, line):
    """The answer to a line, any value; it raises what the line raises."""
    if not isinstance(line, str):
        raise BadLine()
    if line in BARE:
        action = BARE[line]
        return action(house)
    word, _, rest = line.partition(" ")
    if word in PARTS:
        house.do(read_deed(line))
        return place_text(house)
    if word not in ACTIONS:
        raise BadLine()
    action = ACTIONS[word]
    return action(house, rest)


def place_text(house):
    """The place of the present branch, as an answer."""
    return str(house.place(house.here()))


def read_name(text):
    if not is_word(text):
        raise BadLine()
    return text


def read_number(text):
    """The number that the text is, without leading zeros."""
    if not 1 <= len(text) <= FIGURES or not text.isascii() or not text.isdigit() or text[0] == "0" and text != "0":
        raise BadLine()
    return int(text)


def value_of(house, name):
    """The value that a name has in the house's state."""
    state = house.state()
    if name not in state:
        raise UnknownName(name)
    return state[name]


def set_of(house, name):
    """The set that a name has in the house's state."""
    value = value_of(house, name)
    if not is_set(value):
        raise NoSet(name)
    return value


def say_undo(house):
    house.undo()
    return place_text(house)


def say_redo(house):
    house.redo()
    return place_text(house)


def say_all(house):
    state = house.state()
    return "; ".join([name + " " + value_text(state[name]) for name in state])


def say_log(house):
    here = house.here()
    return "; ".join([deed_text(deed) for deed in house.script(here)[:house.place(here)]])


def say_branch(house, rest):
    house.branch(read_name(rest))
    return place_text(house)


def say_go(house, rest):
    house.go(read_name(rest))
    return place_text(house)


def say_merge(house, rest):
    house.merge(read_name(rest))
    return place_text(house)


def say_remove(house, rest):
    house.remove(read_number(rest))
    return place_text(house)


def say_edit(house, rest):
    number, _, deed = rest.partition(" ")
    house.edit(read_number(number), read_deed(deed))
    return place_text(house)


def say_insert(house, rest):
    number, _, deed = rest.partition(" ")
    house.insert(read_number(number), read_deed(deed))
    return place_text(house)


def say_value(house, rest):
    return value_text(value_of(house, read_name(rest)))


def say_hangs(house, rest):
    return " ".join([str(number) for number in house.hangs_on(read_name(rest))])


def say_in(house, rest):
    name, _, text = rest.partition(" ")
    name, value = read_name(name), read_safely(read_value, text)
    return "yes" if is_in(value, set_of(house, name)) else "no"


def say_count(house, rest):
    name, blank, text = rest.partition(" ")
    name, points = read_name(name), read_points(text if blank else None)
    return str(count(set_of(house, name), tuple(points)))


BARE = {"undo": say_undo, "redo": say_redo, "show": say_all, "log": say_log}
ACTIONS = {
    "branch": say_branch,
    "go": say_go,
    "merge": say_merge,
    "remove": say_remove,
    "edit": say_edit,
    "insert": say_insert,
    "show": say_value,
    "hangs": say_hangs,
    "in": say_in,
    "count": say_count,
}
