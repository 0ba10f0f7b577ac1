"""Rules, and what is wrong with any value as rules."""

from gapwise.errors import BadRules
from gapwise.papers import is_value
from gapwise.values import is_word

TESTS = ("before", "same", "unlike")


def check_rules(value):
    """Raises BadRules with the path to the first thing that is wrong, if any value is no rules."""
    if not isinstance(value, tuple):
        raise BadRules(())
    for k in range(len(value)):
        fault = form_fault(value[k])
        if fault is None:
            fault = variable_fault(value[k])
        if fault is not None:
            raise BadRules((k, *fault))


def form_fault(rule):
    """The path to the first thing in any value that has not the form of a rule's, None if there is none."""
    if not has_parts(rule, 3, 3):
        return ()
    head, body, tests = rule
    fault = atom_fault(head)
    if fault is not None:
        return (0, *fault)
    if not has_parts(body, 1, 3):
        return (1,)
    for at in range(len(body)):
        fault = atom_fault(body[at])
        if fault is not None:
            return (1, at, *fault)
    if not has_parts(tests, 0, 3):
        return (2,)
    for at in range(len(tests)):
        fault = trial_fault(tests[at])
        if fault is not None:
            return (2, at, *fault)
    return None


def has_parts(value, least, most):
    """Whether any value is a tuple with so many parts."""
    return isinstance(value, tuple) and least <= len(value) <= most


def atom_fault(value):
    if not has_parts(value, 2, 2) or not is_word(value[0]):
        return ()
    if not has_parts(value[1], 1, 4):
        return (1,)
    for at in range(len(value[1])):
        if not is_term(value[1][at]):
            return (1, at)
    return None


def trial_fault(value):
    if not has_parts(value, 3, 3) or not isinstance(value[0], str) or value[0] not in TESTS:
        return ()
    for at in (1, 2):
        if not is_term(value[at]):
            return (at,)
    return None


def is_term(value):
    """Whether any value is a variable, or a value in its pair."""
    if not has_parts(value, 2, 2):
        return is_word(value)
    return isinstance(value[0], str) and value[0] == "value" and is_value(value[1])


def variable_fault(rule):
    """The path to the first variable of a rule's head or tests that does not stand in its body, None if all do."""
    head, body, tests = rule
    known = {term: True for _, terms in body for term in terms if isinstance(term, str)}
    for at in range(len(head[1])):
        if isinstance(head[1][at], str) and head[1][at] not in known:
            return (0, 1, at)
    for number in range(len(tests)):
        for at in (1, 2):
            term = tests[number][at]
            if isinstance(term, str) and term not in known:
                return (2, number, at)
    return None
