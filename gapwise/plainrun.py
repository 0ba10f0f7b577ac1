"""Plain programs, and what they come to on a sample of the line."""

from gapwise.errors import NoPoint
from gapwise.forms import written_points
from gapwise.points import is_before
from gapwise.samples import all_on
from gapwise.values import support, value_text

# What a name has: a value of a flat kind, a set that is handed in, or a set that is gathered.
FLAT = "flat"
HANDED = "handed"
GAINED = "gained"


def is_plain(program):
    """Whether a program is plain."""
    if program.functions():
        return False
    names = {}
    for name, kind in program.inputs():
        if is_flat_kind(kind):
            names[name] = FLAT
        elif kind[0] == "set" and is_flat_kind(kind[1]):
            names[name] = HANDED
        else:
            return False
    return is_plain_block(program.block(), names, (), True)


def is_flat_kind(kind):
    """Whether no set is in a kind."""
    return kind[0] != "set" and all([is_flat_kind(part) for part in kind[1:]])


def is_flat(thing, names):
    """Whether an expression is flat."""
    word = thing[0]
    if word == "name":
        return names[thing[1]] == FLAT
    if word == "row":
        return all([is_flat(part, names) for part in thing[1]])
    if word == "item":
        return is_flat(thing[2], names)
    return word in ("word", "point")


def is_plain_block(block, names, loops, outermost):
    """Whether a block is plain; loops has the names of the fors around it."""
    inner = dict(names)
    for thing in block:
        if thing[0] == "let":
            if outermost and is_bare_set(thing[2]):
                inner[thing[1]] = GAINED
            elif is_flat(thing[2], inner):
                inner[thing[1]] = FLAT
            else:
                return False
        elif thing[0] == "add":
            if outermost or not is_plain_add(thing, inner, loops):
                return False
        elif not is_plain_branch(thing, inner, loops):
            return False
    return True


def is_bare_set(thing):
    """Whether an expression is a set of a flat kind that has no members."""
    return thing[0] == "set" and thing[2] == () and is_flat_kind(thing[1])


def is_plain_add(thing, names, loops):
    """Whether an add is plain: what it adds tells the members of all loops around."""
    _, added, name = thing
    if names[name] != GAINED or added[0] != "row" or not is_flat(added, names):
        return False
    return all([("name", loop) in added[1] for loop in loops])


def is_plain_branch(thing, names, loops):
    """Whether a for or an if is plain; a grow is not."""
    if thing[0] == "if":
        _, condition, first, second = thing
        return (is_plain_condition(condition, names) and is_plain_block(first, names, loops, False)
                and is_plain_block(second, names, loops, False))
    if thing[0] != "for" or not (thing[2] == ("line",) or is_handed(thing[2], names)):
        return False
    inner = dict(names)
    inner[thing[1]] = FLAT
    return is_plain_block(thing[3], inner, (*loops, thing[1]), False)


def is_handed(thing, names):
    """Whether an expression is a set that is handed in."""
    return thing[0] == "name" and names[thing[1]] == HANDED


def is_plain_condition(thing, names):
    word = thing[0]
    if word in ("not", "and", "or"):
        return all([is_plain_condition(part, names) for part in thing[1:]])
    if word == "in":
        return is_flat(thing[1], names) and is_handed(thing[2], names)
    return word in ("before", "same") and is_flat(thing[1], names) and is_flat(thing[2], names)


def plain_run(program, values, sample):
    """The dict from the names of the outermost block's sets to the lists of their members on the sample."""
    check_points(program, values, sample)
    play = Play(sample)
    env = {}
    for at in range(len(values)):
        name, kind = program.inputs()[at]
        if kind[0] == "set":
            play.hand_in(name, all_on(values[at], sample))
        else:
            env[name] = values[at]
    sets = [thing[1] for thing in program.block() if thing[0] == "let" and thing[2][0] == "set"]
    for name in sets:
        play.gained[name] = {}
    play.do_block(needful(program.block()), env)
    return {name: [play.gained[name][text] for text in sorted(play.gained[name])] for name in sets}


def check_points(program, values, sample):
    """Raises NoPoint of the least point of the values and the program that the sample lacks."""
    held = written_points("block", program.block())
    for value in values:
        held.extend(support(value))
    lacking = None
    for point in held:
        if point not in sample and (lacking is None or is_before(point, lacking)):
            lacking = point
    if lacking is not None:
        raise NoPoint(lacking)


def needful(block):
    """The block without fors and ifs in which nothing is added: they change nothing."""
    found = []
    for thing in block:
        if thing[0] == "for":
            inner = needful(thing[3])
            if adds(inner):
                found.append((*thing[:3], inner))
        elif thing[0] == "if":
            first, second = needful(thing[2]), needful(thing[3])
            if adds(first) or adds(second):
                found.append(("if", thing[1], first, second))
        elif thing[0] == "add" or thing[2][0] != "set":
            found.append(thing)
    return tuple(found)


def adds(block):
    """Whether there is more than lets in a block without what is not needed."""
    return any([thing[0] != "let" for thing in block])


class Play:
    """A plain program at work on a sample: the sets that were handed in, and those that are gathered, by texts."""

    def __init__(self, sample):
        self.sample = sample
        self.handed = {}
        self.texts = {}
        self.gained = {}

    def hand_in(self, name, members):
        self.handed[name] = members
        self.texts[name] = {value_text(member): True for member in members}

    def do_block(self, block, env):
        """Does a block's statements; env has the flat values of the names, and stays as it is."""
        inner = dict(env)
        for thing in block:
            word = thing[0]
            if word == "let":
                inner[thing[1]] = self.worth(thing[2], inner)
            elif word == "add":
                value = self.worth(thing[1], inner)
                self.gained[thing[2]][value_text(value)] = value
            elif word == "if":
                self.do_block(thing[2] if self.holds(thing[1], inner) else thing[3], inner)
            else:
                self.do_for(thing, inner)

    def do_for(self, thing, env):
        _, name, over, block = thing
        inner = dict(env)
        for member in self.sample if over[0] == "line" else self.handed[over[1]]:
            inner[name] = member
            self.do_block(block, inner)

    def worth(self, thing, env):
        """The value of a flat expression."""
        word = thing[0]
        if word == "name":
            return env[thing[1]]
        if word == "row":
            return ("row", *[self.worth(part, env) for part in thing[1]])
        if word == "item":
            return self.worth(thing[2], env)[thing[1] + 1]
        return thing[1]

    def holds(self, thing, env):
        """Whether a plain condition is true."""
        word = thing[0]
        if word == "not":
            return not self.holds(thing[1], env)
        if word == "and":
            return self.holds(thing[1], env) and self.holds(thing[2], env)
        if word == "or":
            return self.holds(thing[1], env) or self.holds(thing[2], env)
        one = self.worth(thing[1], env)
        if word == "in":
            return value_text(one) in self.texts[thing[2][1]]
        other = self.worth(thing[2], env)
        return one == other if word == "same" else is_before(one, other)
