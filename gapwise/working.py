"""The work of a program: the worth of its expressions and conditions, orbit by orbit.

A set stands here as a Family, in its least form; any other value stands as it is.
"""

from gapwise.families import Family, least, opened, ordered, put_value, refined, refined_count, table_of
from gapwise.forms import written_points
from gapwise.mixing import check_many, flattened, is_part, is_same, joined, paired, rest, shared, united
from gapwise.points import is_before, merged_points
from gapwise.values import is_set, support, value_text

LINE_POINTS = ((0, 1),)
# Far less than what Python lets stand within one another, also where an expression takes several calls.
DEEP = 60


class Bound:
    """What a name has now, and the families that have been joined with it since the present run has begun.

    These tell, by themselves, what the run has changed: their points are those of values added alone, or all that
    were held ahead of an inner loop.
    """

    def __init__(self, thing):
        self.thing = thing
        self.gained = []

    def gain(self, family):
        self.thing = united(self.thing, least(family.points, family.table()))
        self.gained.append(family)


class TooDeep(Exception):
    """A call stands so deep within other calls that it has to be worked out ahead of them."""

    def __init__(self, call):
        super().__init__("too deep")
        self.call = call


class Worker:
    """What the work of a program needs beside the names: its caps, its points, its functions, the runs so far.

    Caps are numbers, or None for no cap. known has the values of calls that have been made, and their runs. deep
    counts the expressions that are being worked out within one another, in_call tells whether one is a call.
    """

    def __init__(self, program, runs, members):
        self.runs = runs
        self.members = members
        self.begun = 0
        self.calls = {name: (params, body) for name, params, body in program.functions()}
        self.known = {}
        self.deep = 0
        self.in_call = False
        self.points = ()
        written = written_points("functions", program.functions()) + written_points("block", program.block())
        for point in written:
            self.points = merged_points(self.points, (point,))

    def begin(self, many):
        check_many(self.begun + many, self.runs)
        self.begun += many

    def sized(self, thing):
        """The thing itself, if it does not have too many told members."""
        if isinstance(thing, Family):
            check_many(thing.told(), self.members)
        return thing

    def held(self, env):
        """The ascending tuple of the held points."""
        points = self.points
        for name in env:
            thing = env[name].thing
            points = merged_points(points, thing.points if isinstance(thing, Family) else support(thing))
        return points


def plain(thing):
    """The thing as a value."""
    return thing.plain() if isinstance(thing, Family) else thing


def family_if_set(value):
    """The value as a thing."""
    return opened(value) if is_set(value) else value


def thing_text(thing):
    return thing.written() if isinstance(thing, Family) else value_text(thing)


def with_name(env, name, thing):
    """The names and one more: none of the others will be changed."""
    inner = dict(env)
    inner[name] = Bound(thing)
    return inner


def worth(worker, thing, env):
    """The value of an expression, as a thing."""
    action = WORTHS[thing[0]]
    worker.deep += 1
    result = action(worker, thing, env)
    worker.deep -= 1
    return worker.sized(result)


def worths(worker, things, env):
    return [worth(worker, thing, env) for thing in things]


def two_worths(worker, thing, env):
    return worth(worker, thing[1], env), worth(worker, thing[2], env)


def worth_of_plain(worker, thing, env):
    return thing[1]


def worth_of_name(worker, thing, env):
    return env[thing[1]].thing


def worth_of_line(worker, thing, env):
    return Family((), table_of((), LINE_POINTS))


def worth_of_row(worker, thing, env):
    return ("row", *[plain(part) for part in worths(worker, thing[1], env)])


def worth_of_item(worker, thing, env):
    return family_if_set(worth(worker, thing[2], env)[thing[1] + 1])


def worth_of_set(worker, thing, env):
    values = [plain(part) for part in worths(worker, thing[2], env)]
    points = ()
    for value in values:
        points = merged_points(points, support(value))
    return least(points, table_of(points, values))


def worth_of_join(worker, thing, env):
    one, other = two_worths(worker, thing, env)
    return joined(one, other)


def worth_of_both(worker, thing, env):
    one, other = two_worths(worker, thing, env)
    return shared(one, other)


def worth_of_less(worker, thing, env):
    one, other = two_worths(worker, thing, env)
    return rest(one, other)


def worth_of_pairs(worker, thing, env):
    one, other = two_worths(worker, thing, env)
    return paired(one, other)


def worth_of_all(worker, thing, env):
    return flattened(worth(worker, thing[1], env))


def worth_of_each(worker, thing, env):
    _, body, name, over, condition = thing
    held = worker.held(env)
    table = {}
    for value in all_runs(worker, worth(worker, over, env), held):
        worker.begin(1)
        inner = with_name(env, name, family_if_set(value))
        if condition is None or holds(worker, condition, inner):
            put_value(table, plain(worth(worker, body, inner)), held)
    return least(held, table)


def worth_of_call(worker, thing, env):
    parts = tuple(worths(worker, thing[2], env))
    key = (thing[1], tuple([thing_text(part) for part in parts]))
    if key in worker.known:
        result, many = worker.known[key]
        worker.begin(many)
        return result
    call = (thing[1], parts, key)
    if not worker.in_call:
        return worth_in_turn(worker, call)
    if worker.deep > DEEP:
        raise TooDeep(call)
    return worth_of_body(worker, call)


def worth_of_body(worker, call):
    """The value of a call, which is kept with the number of its runs: the same params bring both about again."""
    name, parts, key = call
    params, body = worker.calls[name]
    ahead = worker.begun
    result = worth(worker, body, {param[0]: Bound(part) for param, part in zip(params, parts)})
    worker.known[key] = (result, worker.begun - ahead)
    return result


def worth_in_turn(worker, call):
    """The value of a call: calls too deep within it are worked out first, then it begins anew, and knows them."""
    waiting = [(call, worker.begun)]
    deep, result = worker.deep, None
    worker.in_call = True
    while waiting:
        first, begun = waiting[-1]
        worker.begun = begun
        worker.deep = deep
        try:
            result = worth_of_body(worker, first)
            waiting.pop()
        except TooDeep as e:
            waiting.append((e.call, worker.begun))
    worker.in_call = False
    return result


def all_runs(worker, over, held):
    """The values of a loop that will be gone through to the end, if not too many runs would begin."""
    check_many(worker.begun + refined_count(over, held), worker.runs)
    return ordered(held, refined(over, held))


def holds(worker, thing, env):
    """Whether a condition is true."""
    action = HOLDS[thing[0]]
    return action(worker, thing, env)


def holds_before(worker, thing, env):
    one, other = two_worths(worker, thing, env)
    return is_before(one, other)


def holds_same(worker, thing, env):
    one, other = two_worths(worker, thing, env)
    return is_same(one, other) if isinstance(one, Family) else one == other


def holds_in(worker, thing, env):
    one, other = two_worths(worker, thing, env)
    return other.has(plain(one))


def holds_within(worker, thing, env):
    one, other = two_worths(worker, thing, env)
    return is_part(one, other)


def holds_not(worker, thing, env):
    return not holds(worker, thing[1], env)


def holds_and(worker, thing, env):
    return holds(worker, thing[1], env) and holds(worker, thing[2], env)


def holds_or(worker, thing, env):
    return holds(worker, thing[1], env) or holds(worker, thing[2], env)


def holds_some(worker, thing, env):
    return has_run(worker, thing, env, True)


def holds_every(worker, thing, env):
    return not has_run(worker, thing, env, False)


def has_run(worker, thing, env, wanted):
    """Whether the condition of a some or an every comes out as wanted in a run; this run is the last one."""
    _, name, over, condition = thing
    family = worth(worker, over, env)
    held = worker.held(env)
    for value in ordered(held, refined(family, held)):
        worker.begin(1)
        if holds(worker, condition, with_name(env, name, family_if_set(value))) == wanted:
            return True
    return False


WORTHS = {
    "word": worth_of_plain,
    "point": worth_of_plain,
    "name": worth_of_name,
    "line": worth_of_line,
    "row": worth_of_row,
    "item": worth_of_item,
    "set": worth_of_set,
    "join": worth_of_join,
    "both": worth_of_both,
    "less": worth_of_less,
    "pairs": worth_of_pairs,
    "all": worth_of_all,
    "each": worth_of_each,
    "call": worth_of_call,
}
HOLDS = {
    "before": holds_before,
    "same": holds_same,
    "in": holds_in,
    "within": holds_within,
    "not": holds_not,
    "and": holds_and,
    "or": holds_or,
    "some": holds_some,
    "every": holds_every,
}
