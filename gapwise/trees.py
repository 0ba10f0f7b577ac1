"""Kinds, and programs as trees of tuples."""

from gapwise.binding import check_names
from gapwise.forms import check_forms, form_fault
from gapwise.kinds import check_kinds
from gapwise.values import is_row, is_set


def is_kind(value):
    """Whether any value is a kind."""
    return form_fault("kind", value) is None


def is_of(value, kind):
    """Whether a value is of a kind."""
    if isinstance(value, str):
        return kind[0] == "word"
    if is_row(value):
        if kind[0] != "row" or len(kind) != len(value):
            return False
        return all([is_of(value[at], kind[at]) for at in range(1, len(value))])
    if is_set(value):
        return kind[0] == "set" and all([is_of(member, kind[1]) for member in value[2]])
    return kind[0] == "point"


class Program:
    """A program: its inputs, its functions and its block."""

    def __init__(self, inputs, functions, block):
        check_forms(inputs, functions, block)
        check_names(inputs, functions, block)
        self._kinds = check_kinds(inputs, functions, block)
        self._inputs = inputs
        self._functions = functions
        self._block = block

    def inputs(self):
        return self._inputs

    def functions(self):
        return self._functions

    def block(self):
        return self._block

    def kinds(self):
        """A new dict from the inputs and the names that the outermost block's lets bind to their kinds."""
        return dict(self._kinds)

    def __eq__(self, other):
        return (isinstance(other, Program) and self._inputs == other._inputs
                and self._functions == other._functions and self._block == other._block)
