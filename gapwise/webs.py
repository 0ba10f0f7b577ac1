"""Webs: sets of ties, and the walks through them."""

from gapwise.families import opened
from gapwise.making import is_in, made, orbits
from gapwise.nets import Net
from gapwise.papers import are_values, is_paper, is_set_value
from gapwise.points import merged_points
from gapwise.relating import is_tied, tie_between
from gapwise.values import support


def places(web):
    """The set of the values that stand in a tie."""
    return made(web[1], [part for row in web[2] for part in row[1:]])


def search_from(web, x):
    """All walks from a value."""
    return Net(web, merged_points(web[1], support(x))).search(x)


def reached(web, x):
    """The set of all values to which a walk leads from x."""
    return search_from(web, x).reached()


def fewest_steps(web, x, y):
    """The number of steps of a shortest walk from x to y, None if there is none."""
    return search_from(web, x).steps_to(y)


def path(web, x, y):
    """A shortest walk from x to y, or the set of all that is reached from x."""
    search = search_from(web, x)
    if search.steps_to(y) is None:
        return ("closed", search.reached())
    return ("path", search.walk_to(y))


def nets_of(web):
    """The list of pairs of a value, for each orbit of places, and the net over the web's points and its own."""
    nets, found = {}, []
    for x in orbits(places(web), web[1]):
        points = merged_points(web[1], support(x))
        if points not in nets:
            nets[points] = Net(web, points)
        found.append((x, nets[points]))
    return found


def searches(web):
    """The list of pairs of a value, for each orbit of places, and all walks from it."""
    return [(x, net.search(x)) for x, net in nets_of(web)]


def closure(web):
    """The set of all rows of two values such that a walk of one step or more leads from the one to the other."""
    return closure_of(web, searches(web))


def closure_of(web, found):
    """The closure of a web, of which all walks are found."""
    return made(web[1], [("row", x, search.net.value_of(key)) for x, search in found for key in search.again])


def at_steps(web, n):
    """The set of all rows of two places so many steps apart."""
    rows = []
    for x, search in searches(web):
        for key in search.steps:
            if search.steps[key] == n:
                rows.append(("row", x, search.net.value_of(key)))
    return made(web[1], rows)


def farthest(web):
    """The greatest number of steps of a shortest walk between two places, 0 if there are none."""
    return max([search.steps[key] for _, search in searches(web) for key in search.steps], default=0)


def judge_path(web, x, y, value):
    """The first fault of any value as a paper about walks from x to y, None if there is none."""
    if is_paper(value, "path") and are_values(value[1]):
        return walk_fault(web, x, y, value[1])
    if is_paper(value, "closed") and is_set_value(value[1]):
        return closed_fault(web, x, y, value[1])
    return ("form",)


def walk_fault(web, x, y, walk):
    if walk[0] != x or walk[-1] != y:
        return ("ends",)
    for k in range(len(walk) - 1):
        if not is_tied(web, walk[k], walk[k + 1]):
            return ("tie", k)
    return None


def closed_fault(web, x, y, many):
    if not is_in(x, many):
        return ("lacks",)
    if is_in(y, many):
        return ("holds",)
    inside = opened(many)
    leading = tie_between(web, inside, True, inside, False)
    return None if leading is None else ("leads", *leading)
