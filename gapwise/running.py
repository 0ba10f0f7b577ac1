"""Programs run."""

from gapwise.doing import do
from gapwise.errors import BadValue, UnknownName
from gapwise.making import is_in
from gapwise.reading import check_value
from gapwise.working import Bound, Worker, family_if_set, plain


def worked_out(program, values, worker):
    """The dict from the inputs and the outermost block's names to their values at the end."""
    env = {}
    for at in range(len(values)):
        env[program.inputs()[at][0]] = Bound(family_if_set(values[at]))
    for thing in program.block():
        do(worker, thing, env)
    return {name: plain(env[name].thing) for name in env}


def run(program, values, *, runs=3000, members=600):
    """The dict from the inputs and the outermost block's names to their values; at most so many runs and members."""
    return worked_out(program, values, Worker(program, runs, members))


def run_count(program, values):
    """How many runs of loops begin in all."""
    worker = Worker(program, None, None)
    worked_out(program, values, worker)
    return worker.begun


def is_told(program, values, name, value):
    """Whether any value is a member of the set that the name has at the end; any name may be asked for."""
    kinds = program.kinds()
    if not isinstance(name, str) or name not in kinds:
        raise UnknownName(name)
    try:
        check_value(value)
    except BadValue:
        return False
    if kinds[name][0] != "set":
        return False
    return is_in(value, worked_out(program, values, Worker(program, None, None))[name])
