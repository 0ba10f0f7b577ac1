"""Deeds: what makes a state of a state, and their texts."""

from gapwise.algebra import join, less
from gapwise.errors import (BadDeed, BadLine, BadMove, BadName, BadValue, LineError, NoSet, NotThere, TooMany,
                            UnknownName, WrongKind)
from gapwise.making import made
from gapwise.placing import moved
from gapwise.points import is_ascending, is_point
from gapwise.programtexts import program_text, read_program
from gapwise.reading import check_value, read_value
from gapwise.running import run
from gapwise.trees import Program, is_of
from gapwise.values import depth, is_set, is_word, support, value_text

DEEPEST = 4
MOST_NAMES = 8
PARTS = {"name": 3, "drop": 2, "add": 3, "cut": 3, "run": 4, "move": 2}


def behind(state, deed):
    """The state that a deed, any value, makes of a state."""
    if not isinstance(deed, tuple) or not deed or not isinstance(deed[0], str) or PARTS.get(deed[0]) != len(deed):
        raise BadDeed()
    action, parts = ACTIONS[deed[0]], deed[1:]
    found = action(state, *parts)
    if len(found) > MOST_NAMES:
        raise TooMany()
    return {name: found[name] for name in sorted(found)}


def with_value(state, name, value):
    found = dict(state)
    found[name] = value
    return found


def has_name(state, name):
    """Whether any value is a name of a state."""
    return isinstance(name, str) and name in state


def done_name(state, name, value):
    if not is_word(name):
        raise BadName(name)
    check_value(value)
    return with_value(state, name, value)


def done_drop(state, name):
    if not has_name(state, name):
        raise UnknownName(name)
    return {other: state[other] for other in state if other != name}


def done_add(state, name, value):
    check_member(state, name, value)
    return with_value(state, name, join(state[name], made(support(value), [value])))


def done_cut(state, name, value):
    check_member(state, name, value)
    return with_value(state, name, less(state[name], made(support(value), [value])))


def check_member(state, name, value):
    """Raises what is due if any value can't be a member of the set that a name has."""
    if not has_name(state, name):
        raise UnknownName(name)
    if not is_set(state[name]):
        raise NoSet(name)
    check_value(value)
    if depth(value) == DEEPEST:
        raise BadValue(())


def done_run(state, inputs, functions, block):
    program = Program(inputs, functions, block)
    for name, kind in inputs:
        if name not in state:
            raise UnknownName(name)
        if not is_of(state[name], kind):
            raise WrongKind(name)
    told = run(program, [state[name] for name, _ in inputs])
    found = dict(state)
    for name in bound_names(block):
        found[name] = told[name]
    return found


def bound_names(block):
    """The list of the names that the lets of a block bind."""
    return [thing[1] for thing in block if thing[0] == "let"]


def done_move(state, move):
    if not is_move(move):
        raise BadMove()
    return {name: moved(state[name], move) for name in state}


def is_move(value):
    """Whether any value is a move."""
    if not isinstance(value, tuple):
        return False
    for pair in value:
        if not isinstance(pair, tuple) or len(pair) != 2 or not is_point(pair[0]) or not is_point(pair[1]):
            return False
    return is_ascending([old for old, _ in value]) and is_ascending([new for _, new in value])


ACTIONS = {
    "name": done_name,
    "drop": done_drop,
    "add": done_add,
    "cut": done_cut,
    "run": done_run,
    "move": done_move,
}


def reads(deed):
    """The ascending list of the names that a deed reads, None if it reads all that are there."""
    if deed[0] == "move":
        return None
    if deed[0] == "run":
        return sorted([name for name, _ in deed[1]])
    return [] if deed[0] == "name" else [deed[1]]


def writes(deed):
    """The ascending list of the names that a deed writes, None if it writes all that are there."""
    if deed[0] == "move":
        return None
    return sorted(bound_names(deed[3])) if deed[0] == "run" else [deed[1]]


def differences(one, other):
    """The dict from the names at which two states are unlike to what has gone and come, or stood and stands there."""
    found = {}
    for name in sorted([*one, *[word for word in other if word not in one]]):
        before, after = one.get(name), other.get(name)
        if is_set(before) and is_set(after):
            if before != after:
                found[name] = ("sets", less(before, after), less(after, before))
        elif before != after:
            found[name] = ("values", before, after)
    return found


def deed_text(deed):
    """The text of a deed."""
    word = deed[0]
    if word == "run":
        _, inputs, functions, block = deed
        return "run " + program_text(Program(inputs, functions, block))
    if word == "move":
        return " ".join([word, *[value_text(point) for pair in deed[1] for point in pair]])
    return " ".join([*deed[:2], *[value_text(value) for value in deed[2:]]])


def read_deed(text):
    """The deed of which any value is the text."""
    if not isinstance(text, str):
        raise BadLine()
    word, blank, rest = text.partition(" ")
    if word == "move":
        return ("move", read_move(rest if blank else None))
    if word not in PARTS:
        raise BadLine()
    if word == "run":
        program = read_safely(read_program, rest)
        return ("run", program.inputs(), program.functions(), program.block())
    name, blank, rest = rest.partition(" ")
    if not is_word(name) or (word == "drop") == (blank == " "):
        raise BadLine()
    return (word, name) if word == "drop" else (word, name, read_safely(read_value, rest))


def read_safely(reader, text):
    """What a reader makes of a text; BadLine if it raises an error of the package's."""
    try:
        return reader(text)
    except (LineError, NotThere):
        raise BadLine() from None


def read_move(text):
    """The move of which this text has the points; None is no text."""
    points = read_points(text)
    if len(points) % 2 == 1:
        raise BadLine()
    move = tuple([(points[at], points[at + 1]) for at in range(0, len(points), 2)])
    if not is_move(move):
        raise BadLine()
    return move


def read_points(text):
    """The list of the points in a text, with one blank between two; none in None."""
    if text is None:
        return []
    points = [read_safely(read_value, part) for part in text.split(" ")]
    if not all([is_point(point) for point in points]):
        raise BadLine()
    return points
