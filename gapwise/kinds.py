"""The kinds of a program's expressions, where all names are bound."""

from gapwise.errors import MixedKinds
from gapwise.forms import DEEPEST, kind_depth

WORD = ("word",)
POINT = ("point",)


class Scope:
    """The kinds of the names that are bound; for each function that is known its params' kinds and its own."""

    def __init__(self, names, known):
        self.names = names
        self.known = known

    def inner(self):
        return Scope(dict(self.names), self.known)

    def with_name(self, name, kind):
        scope = self.inner()
        scope.names[name] = kind
        return scope


def check_kinds(inputs, functions, block):
    """Raises MixedKinds with the path to what does not go together; returns the dict that Program.kinds tells."""
    known = {}
    for at in range(len(functions)):
        name, params, body = functions[at]
        scope = Scope({param: kind for param, kind in params}, known)
        known[name] = (tuple([kind for _, kind in params]), kind_of(body, scope, (1, at, 2)))
    return check_block(block, Scope({name: kind for name, kind in inputs}, known), (2,)).names


def agree(test, path):
    if not test:
        raise MixedKinds(path)


def kind_of(thing, scope, path):
    """The kind of an expression."""
    action = KINDS[thing[0]]
    kind = action(thing, scope, path)
    agree(kind_depth(kind) <= DEEPEST, path)
    return kind


def kinds_of(things, scope, path):
    return tuple([kind_of(things[at], scope, (*path, at)) for at in range(len(things))])


def two_kinds(thing, scope, path):
    return kind_of(thing[1], scope, (*path, 1)), kind_of(thing[2], scope, (*path, 2))


def kind_of_word(thing, scope, path):
    return WORD


def kind_of_point(thing, scope, path):
    return POINT


def kind_of_name(thing, scope, path):
    return scope.names[thing[1]]


def kind_of_line(thing, scope, path):
    return ("set", POINT)


def kind_of_row(thing, scope, path):
    return ("row", *kinds_of(thing[1], scope, (*path, 1)))


def kind_of_item(thing, scope, path):
    kind = kind_of(thing[2], scope, (*path, 2))
    agree(kind[0] == "row" and len(kind) > thing[1] + 1, path)
    return kind[thing[1] + 1]


def kind_of_set(thing, scope, path):
    for kind in kinds_of(thing[2], scope, (*path, 2)):
        agree(kind == thing[1], path)
    return ("set", thing[1])


def kind_of_mix(thing, scope, path):
    one, other = two_kinds(thing, scope, path)
    agree(one[0] == "set" and one == other, path)
    return one


def kind_of_pairs(thing, scope, path):
    one, other = two_kinds(thing, scope, path)
    agree(one[0] == "set" and other[0] == "set", path)
    return ("set", ("row", one[1], other[1]))


def kind_of_all(thing, scope, path):
    kind = kind_of(thing[1], scope, (*path, 1))
    agree(kind[0] == "set" and kind[1][0] == "set", path)
    return kind[1]


def kind_of_each(thing, scope, path):
    inner = entered(thing, 2, scope, path)
    if thing[4] is not None:
        check_condition(thing[4], inner, (*path, 4))
    return ("set", kind_of(thing[1], inner, (*path, 1)))


def kind_of_call(thing, scope, path):
    params, kind = scope.known[thing[1]]
    agree(kinds_of(thing[2], scope, (*path, 2)) == params, path)
    return kind


def entered(thing, at, scope, path):
    """The scope within a loop whose name stands at this place, and what it goes over behind it."""
    over = kind_of(thing[at + 1], scope, (*path, at + 1))
    agree(over[0] == "set", path)
    return scope.with_name(thing[at], over[1])


def check_condition(thing, scope, path):
    word = thing[0]
    if word in ("not", "and", "or"):
        for at in range(1, len(thing)):
            check_condition(thing[at], scope, (*path, at))
    elif word in ("some", "every"):
        check_condition(thing[3], entered(thing, 1, scope, path), (*path, 3))
    else:
        one, other = two_kinds(thing, scope, path)
        if word == "before":
            agree(one == POINT and other == POINT, path)
        elif word == "same":
            agree(one == other, path)
        elif word == "in":
            agree(other == ("set", one), path)
        else:
            agree(one[0] == "set" and one == other, path)


def check_block(block, scope, path):
    """The scope behind the last statement of a block."""
    inside = scope.inner()
    for at in range(len(block)):
        check_statement(block[at], inside, (*path, at))
    return inside


def check_statement(thing, scope, path):
    """Looks at a statement, and gives the scope the name that it binds."""
    word = thing[0]
    if word == "let":
        scope.names[thing[1]] = kind_of(thing[2], scope, (*path, 2))
    elif word == "add":
        kind = kind_of(thing[1], scope, (*path, 1))
        agree(scope.names[thing[2]] == ("set", kind), path)
    elif word == "for":
        check_block(thing[3], entered(thing, 1, scope, path), (*path, 3))
    elif word == "if":
        check_condition(thing[1], scope, (*path, 1))
        check_block(thing[2], scope, (*path, 2))
        check_block(thing[3], scope, (*path, 3))
    else:
        within = kind_of(thing[2], scope, (*path, 2))
        check_block(thing[3], scope, (*path, 3))
        agree(within[0] == "set" and scope.names[thing[1]] == within, path)


KINDS = {
    "word": kind_of_word,
    "point": kind_of_point,
    "name": kind_of_name,
    "line": kind_of_line,
    "row": kind_of_row,
    "item": kind_of_item,
    "set": kind_of_set,
    "join": kind_of_mix,
    "both": kind_of_mix,
    "less": kind_of_mix,
    "pairs": kind_of_pairs,
    "all": kind_of_all,
    "each": kind_of_each,
    "call": kind_of_call,
}
