"""Which names are bound where in a program that has its form."""

from gapwise.errors import TwiceTold, UnknownName
from gapwise.forms import parts_of

# The place of a loop's name in its tuple; what it goes over stands behind it.
LOOPS = {"for": 1, "some": 1, "every": 1, "each": 2}
HEADED = ("expression", "condition", "choice", "statement")


def check_names(inputs, functions, block):
    """Raises TwiceTold of the first name that is bound already, then UnknownName of the first one that isn't."""
    check = Binding()
    bound = bound_by(inputs)
    for name, params, body in functions:
        if name in check.ahead:
            raise TwiceTold(name)
        check.walk("expression", body, bound_by(params))
        check.ahead[name] = True
    check.walk("block", block, bound)
    if check.missing:
        raise UnknownName(check.missing[0])


def bound_by(inputs):
    """The names of inputs or params, as keys."""
    bound = {}
    for name, _ in inputs:
        if name in bound:
            raise TwiceTold(name)
        bound[name] = True
    return bound


class Binding:
    """Walks through things: ahead has the functions that may be called, missing the names that are not bound."""

    def __init__(self):
        self.ahead = {}
        self.missing = []

    def walk(self, sort, thing, bound):
        """Goes through a thing in which the names are bound that are keys of bound."""
        inner, over = dict(bound), 0
        if sort in HEADED and thing is not None:
            self.meet(thing, bound)
            if thing[0] in LOOPS:
                over = LOOPS[thing[0]] + 1
                inner[thing[over - 1]] = True
        for at, part_sort, part in parts_of(sort, thing):
            self.walk(part_sort, part, bound if at == over and over else inner)
            if part_sort == "statement" and part[0] == "let":
                inner[part[1]] = True

    def meet(self, thing, bound):
        """Looks at the name that the tuple itself binds or asks for."""
        word = thing[0]
        if word == "let" or word in LOOPS:
            name = thing[LOOPS.get(word, 1)]
            if name in bound:
                raise TwiceTold(name)
        elif word == "name" or word == "grow":
            self.ask(thing[1], bound)
        elif word == "add":
            self.ask(thing[2], bound)
        elif word == "call":
            self.ask(thing[1], self.ahead)

    def ask(self, name, known):
        if name not in known:
            self.missing.append(name)
