"""The forms of a program's parts, whatever their names and kinds.

Each thing in a program is of a SORT: "inputs", "entry" (a name and its kind), "functions", "function", "kind" and
"inner" (a kind that is part of a kind), "expression", "condition", "choice" (a condition or None), "statement",
"block", "many" (expressions) and "few" (one to four of them). The other sorts, "word", "point" and "place", belong to
the tuple that they stand in.
"""

from gapwise.errors import BadProgram
from gapwise.points import is_number, is_point
from gapwise.values import is_word

DEEPEST = 4
TOO_LONG = 10 ** 30

LISTED = {"inputs": "entry", "functions": "function", "block": "statement", "many": "expression", "few": "expression"}
TOLD = {"entry": ("word", "kind"), "function": ("word", "inputs", "expression")}
PLAIN = ("word", "point", "place")
EXPRESSIONS = {
    "word": ("word",),
    "point": ("point",),
    "name": ("word",),
    "line": (),
    "row": ("few",),
    "item": ("place", "expression"),
    "set": ("kind", "many"),
    "join": ("expression", "expression"),
    "both": ("expression", "expression"),
    "less": ("expression", "expression"),
    "pairs": ("expression", "expression"),
    "all": ("expression",),
    "each": ("expression", "word", "expression", "choice"),
    "call": ("word", "many"),
}
CONDITIONS = {
    "before": ("expression", "expression"),
    "same": ("expression", "expression"),
    "in": ("expression", "expression"),
    "within": ("expression", "expression"),
    "not": ("condition",),
    "and": ("condition", "condition"),
    "or": ("condition", "condition"),
    "some": ("word", "expression", "condition"),
    "every": ("word", "expression", "condition"),
}
STATEMENTS = {
    "let": ("word", "expression"),
    "add": ("expression", "word"),
    "for": ("word", "expression", "block"),
    "if": ("condition", "block", "block"),
    "grow": ("word", "expression", "block"),
}


def check_forms(inputs, functions, block):
    """Raises BadProgram with the path to the first thing that has not its form."""
    things = (("inputs", inputs), ("functions", functions), ("block", block))
    for at in range(3):
        sort, thing = things[at]
        path = form_fault(sort, thing)
        if path is not None:
            raise BadProgram((at, *path))


def form_fault(sort, thing):
    """The path to the first part of any value that has not its form, None if there is none."""
    parts = parts_of(sort, thing)
    if parts is None:
        return ()
    for at, inner, part in parts:
        path = form_fault(inner, part)
        if path is not None:
            return (at, *path)
    if sort == "kind" and kind_depth(thing) > DEEPEST:
        return ()
    return None


def parts_of(sort, thing):
    """The triples of place, sort and part for the things that any value has, None if it is wrong itself."""
    if sort == "choice" and thing is None:
        return []
    if not isinstance(thing, tuple):
        return None
    if sort in LISTED:
        if sort == "few" and not 1 <= len(thing) <= 4:
            return None
        return [(at, LISTED[sort], thing[at]) for at in range(len(thing))]
    if sort in TOLD:
        return told_parts(TOLD[sort], thing, 0)
    if not thing or not isinstance(thing[0], str):
        return None
    if sort in ("kind", "inner"):
        return kind_parts(thing)
    sorts = sorts_behind(sort, thing[0])
    return None if sorts is None else told_parts(sorts, thing, 1)


def sorts_behind(sort, word):
    """The sorts of the parts behind the word in a thing that begins with it, None if it may not."""
    if sort == "expression":
        return EXPRESSIONS.get(word)
    if sort == "statement":
        return STATEMENTS.get(word)
    return CONDITIONS.get(word)


def told_parts(sorts, thing, start):
    """The parts of a tuple that has parts of these sorts from the place start on."""
    if len(thing) != start + len(sorts):
        return None
    parts = []
    for at in range(start, len(thing)):
        sort = sorts[at - start]
        if sort not in PLAIN:
            parts.append((at, sort, thing[at]))
        elif not is_plainly(sort, thing[at]):
            return None
    return parts


def is_plainly(sort, part):
    """Whether any value is a word, a point that may be written, or the number of a row's part."""
    if sort == "word":
        return is_word(part)
    if sort == "point":
        return is_point(part) and -TOO_LONG < part[0] < TOO_LONG and part[1] < TOO_LONG
    return is_number(part) and 0 <= part <= 3


def kind_parts(thing):
    """The parts of a kind that begins with some word."""
    if thing[0] in ("word", "point"):
        fits = len(thing) == 1
    elif thing[0] == "row":
        fits = 2 <= len(thing) <= 5
    else:
        fits = thing[0] == "set" and len(thing) == 2
    return [(at, "inner", thing[at]) for at in range(1, len(thing))] if fits else None


def kind_depth(kind):
    """How many rows and sets stand within one another in a kind."""
    if len(kind) == 1:
        return 0
    return 1 + max([kind_depth(part) for part in kind[1:]])


def written_points(sort, thing):
    """The list of all points that are written in a thing of a program."""
    if sort == "expression" and thing[0] == "point":
        return [thing[1]]
    found = []
    for _, inner, part in parts_of(sort, thing):
        found.extend(written_points(inner, part))
    return found
