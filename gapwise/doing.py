"""The work of a program: its statements done."""

from gapwise.codes import passage
from gapwise.families import Family, table_of
from gapwise.mixing import is_same, parted, with_member
from gapwise.points import merged_points
from gapwise.values import support
from gapwise.working import Bound, all_runs, family_if_set, holds, plain, worth


def do(worker, thing, env):
    """Does a statement: binds, and changes, what the names have."""
    action = DEEDS[thing[0]]
    action(worker, thing, env)


def do_block(worker, block, env):
    """Does a block; the names that its lets bind end with it."""
    for thing in block:
        do(worker, thing, env)
    for thing in block:
        if thing[0] == "let":
            del env[thing[1]]


def do_let(worker, thing, env):
    env[thing[1]] = Bound(worth(worker, thing[2], env))


def do_add(worker, thing, env):
    value = plain(worth(worker, thing[1], env))
    bound = env[thing[2]]
    grown = with_member(bound.thing, value, worker.members)
    if grown is not None:
        points = support(value)
        bound.thing = grown
        bound.gained.append(Family(points, table_of(points, [value])))
    worker.sized(bound.thing)


def do_for(worker, thing, env):
    _, name, over, block = thing
    held = worker.held(env)
    gains = {}
    for value in all_runs(worker, worth(worker, over, env), held):
        worker.begin(1)
        inner = {key: Bound(env[key].thing) for key in env}
        inner[name] = Bound(family_if_set(value))
        do_block(worker, block, inner)
        for key in env:
            for family in inner[key].gained:
                spread_over(held, family, gains.setdefault(key, {}))
    for key in gains:
        env[key].gain(Family(held, gains[key]))
        worker.sized(env[key].thing)


def spread_over(held, family, table):
    """Puts into a table over the held points all orbits in which members of the family are."""
    way = passage(family.points, held)
    skeletons = family.table()
    for key in skeletons:
        for codes in way.finer(key[1]):
            table[(key[0], codes)] = skeletons[key]


def do_if(worker, thing, env):
    do_block(worker, thing[2] if holds(worker, thing[1], env) else thing[3], env)


def do_grow(worker, thing, env):
    _, name, over, block = thing
    within = worth(worker, over, env)
    bound = env[name]
    grows = True
    while grows:
        before, gained = bound.thing, bound.gained
        bound.gained = []
        do_block(worker, block, env)
        come = list(bound.gained)
        bound.thing, bound.gained = before, gained
        for family in come:
            points = merged_points(family.points, within.points)
            bound.gain(Family(points, parted(family, within, True, None)))
        worker.sized(bound.thing)
        grows = not is_same(bound.thing, before)


DEEDS = {
    "let": do_let,
    "add": do_add,
    "for": do_for,
    "if": do_if,
    "grow": do_grow,
}
