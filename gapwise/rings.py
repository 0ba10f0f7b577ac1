"""Rings of a web, its heights, and its odd rings or sides."""

from gapwise.algebra import outside
from gapwise.codes import passage
from gapwise.families import Family, keyed, least, opened
from gapwise.mixing import rest, shared, united
from gapwise.nets import Net
from gapwise.papers import are_values, is_paper, is_set_value
from gapwise.placing import are_alike
from gapwise.relating import beside, is_pair, is_tied, tie_between
from gapwise.rooms import both_ways
from gapwise.values import value_text
from gapwise.webs import closure_of, nets_of, places, searches, walk_fault


def ring(web):
    """Any ring, or the web's closure, which shows that there is none."""
    found = searches(web)
    for _, search in found:
        if search.closing is not None:
            return ("ring", search.ring())
    return ("none", closure_of(web, found))


def judge_ring(web, value):
    """The first fault of any value as a paper about rings, None if there is none."""
    if is_paper(value, "ring") and are_values(value[1]):
        return around_fault(web, value[1])
    if is_paper(value, "none") and is_set_value(value[1]) and all([is_pair(row) for row in value[1][2]]):
        return none_fault(web, value[1])
    return ("form",)


def around_fault(web, values):
    """What keeps values from going round, each once."""
    known = {}
    for k in range(len(values)):
        text = value_text(values[k])
        if text in known:
            return ("twice", k)
        known[text] = True
    for k in range(len(values)):
        if not is_tied(web, values[k], values[(k + 1) % len(values)]):
            return ("tie", k)
    return None


def none_fault(web, many):
    """What keeps a set of rows of two from showing that the web has no ring."""
    lacking = outside(web, many)
    if lacking is not None:
        return ("tie", lacking[1], lacking[2])
    gap = open_steps(many)
    if gap is not None:
        return ("open", *gap)
    for _, x, y in many[2]:
        if x == y:
            return ("same", x)
    return None


def open_steps(many):
    """Three values of which each is tied to the next one, but not the first one to the last; None if there are none."""
    for x, net in nets_of(many):
        key, _ = keyed(x, net.points)
        nexts = {second: True for second, _ in net.onward.get(key, [])}
        for middle in nexts:
            for last, row_key in net.onward.get(middle, []):
                if last not in nexts:
                    _, y, z = net.row_of(row_key)
                    return (x, y, z)
    return None


def heights(web):
    """The sets of the places by the steps of the longest walk from them, or a walk between two that are alike."""
    net = Net(web, web[1])
    known = known_heights(net)
    left = [key for key in net.skeletons if key not in known]
    if left:
        return ("endless", endless_walk(net, left[0], known))
    tables = [{} for _ in range(max([known[key] for key in known], default=-1) + 1)]
    for key in known:
        tables[known[key]][key] = net.skeletons[key]
    return ("heights", [least(web[1], table).plain() for table in tables])


def known_heights(net):
    """The steps of the longest walk from each orbit, where there is a longest one."""
    waiting = {key: len(net.onward.get(key, [])) for key in net.skeletons}
    behind = {}
    for key in net.onward:
        for second, _ in net.onward[key]:
            behind.setdefault(second, []).append(key)
    known = {key: 0 for key in waiting if waiting[key] == 0}
    ready = list(known)
    while ready:
        second = ready.pop()
        for first in behind.get(second, []):
            known[first] = max(known.get(first, 0), known[second] + 1)
            waiting[first] -= 1
            if waiting[first] == 0:
                ready.append(first)
    return {key: known[key] for key in waiting if waiting[key] == 0}


def endless_walk(net, key, known):
    """A walk from an orbit back to it, among those that have no height; each of these is tied to one of them."""
    way, met = [], {}
    while key not in met:
        met[key] = len(way)
        steps = [step for step in net.onward[key] if step[0] not in known]
        way.append(steps[0][1])
        key = steps[0][0]
    return net.walk_along(net.value_of(key), way[met[key]:])


def judge_heights(web, value):
    """The first fault of any value as a paper about heights, None if there is none."""
    if is_paper(value, "heights") and are_sets(value[1]):
        return heights_fault(web, [opened(many) for many in value[1]])
    if is_paper(value, "endless") and are_values(value[1]) and len(value[1]) > 1:
        fault = walk_fault(web, value[1][0], value[1][-1], value[1])
        if fault is None and not are_alike(web[1], value[1][0], value[1][-1]):
            return ("unlike",)
        return fault
    return ("form",)


def are_sets(value):
    """Whether any value is a list or a tuple of sets."""
    return isinstance(value, (list, tuple)) and all([is_set_value(many) for many in value])


def heights_fault(web, sets):
    """What keeps families from being those of the places by their heights."""
    whole = opened(places(web))
    left = whole
    for many in sets:
        left = rest(left, many, None)
    if left.told():
        return ("lacks", left.example())
    earlier = [Family((), {})]
    for k in range(len(sets)):
        for strange in (rest(sets[k], whole, None), shared(sets[k], earlier[k], None)):
            if strange.told():
                return ("strange", k, strange.example())
        earlier.append(united(earlier[k], sets[k]))
    if sets and not sets[-1].told():
        return ("empty",)
    return steps_fault(web, sets, earlier)


def steps_fault(web, sets, earlier):
    """The first fault of the ties between families that part the places; earlier has for each those ahead of it."""
    for k in range(len(sets)):
        tie = tie_between(web, sets[k], True, earlier[k], False)
        if tie is not None:
            return ("rises", *tie)
    for k in range(1, len(sets)):
        low = rest(sets[k], beside(web, 2, sets[k - 1], None), None)
        if low.told():
            return ("low", k, low.example())
    return None


def odd_ring(web):
    """Any odd ring, or sides whose points are among the web's."""
    ways = both_ways(web)
    points, met, side = ways[1], {}, {}
    for x, search in searches(ways):
        row_key = search.level_tie()
        if row_key is not None:
            _, one, other = search.net.row_of(row_key)
            return ("ring", parted_walks(search.walk_to(one), search.walk_to(other)))
        # Of rooms alike over the points one tells the sides of all.
        way = passage(search.net.points, points)
        if (search.start[0], way.coarse(search.start[1])) not in met:
            for key in search.steps:
                wide = (key[0], way.coarse(key[1]))
                met[wide] = True
                if search.steps[key] % 2 == 0:
                    side[wide] = search.net.skeletons[key]
    return ("sides", least(points, side).plain())


def parted_walks(one, other):
    """The ring of two walks of one length, shortest ones, from one value to two that are joined."""
    last = max([at for at in range(len(one)) if one[at] == other[at]])
    return (*one[last:], *other[:last:-1])


def judge_odd(web, value):
    """The first fault of any value as a paper about odd rings, None if there is none."""
    if is_paper(value, "ring") and are_values(value[1]):
        return ("even",) if len(value[1]) % 2 == 0 else around_fault(both_ways(web), value[1])
    if is_paper(value, "sides") and is_set_value(value[1]):
        return sides_fault(web, opened(value[1]))
    return ("form",)


def sides_fault(web, many):
    """What keeps a family from being sides."""
    strange = rest(many, opened(places(web)), None)
    if strange.told():
        return ("strange", strange.example())
    for word, has in (("both", True), ("neither", False)):
        tie = tie_between(web, many, has, many, has)
        if tie is not None:
            return (word, *tie)
    return None
