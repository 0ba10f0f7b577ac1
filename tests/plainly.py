"""Programs run straight from the words of the document, set by set and member by member, and programs made by chance."""

from gapwise.algebra import all_of, both, is_within, join, joined_points, less
from gapwise.errors import TooMany
from gapwise.making import LINE, is_in, made, orbits
from gapwise.points import is_before, merged_points
from gapwise.products import pairs
from gapwise.trees import Program
from gapwise.values import support
from tests.helping import HALVES, ascending, some_points

MIXES = {"join": join, "both": both, "less": less, "pairs": pairs}


def points_in(thing):
    """All points that are written in a part of a program."""
    if not isinstance(thing, tuple):
        return []
    if len(thing) == 2 and thing[0] == "point":
        return [thing[1]]
    return sum([points_in(part) for part in thing], [])


def union(one, other):
    points = joined_points(one, other)
    return made(points, orbits(one, points) + orbits(other, points))


def meeting(one, other):
    points = joined_points(one, other)
    return made(points, [value for value in orbits(one, points) if is_in(value, other)])


class Plainly:
    """Runs a program with plain dicts of values; begun is the number of its runs."""

    def __init__(self, program, runs, members):
        self.program = program
        self.runs = runs
        self.members = members
        self.begun = 0
        self.functions = {name: (params, body) for name, params, body in program.functions()}
        self.written = ascending(points_in(program.functions()) + points_in(program.block()))

    def run(self, values):
        env = {name: value for (name, _), value in zip(self.program.inputs(), values)}
        self.block(self.program.block(), env, True)
        return env

    def held(self, env):
        points = self.written
        for value in env.values():
            points = merged_points(points, support(value))
        return points

    def begin(self):
        if self.begun >= self.runs:
            raise TooMany()
        self.begun += 1

    def capped(self, value):
        if isinstance(value, tuple) and value[0] == "set" and len(value[2]) > self.members:
            raise TooMany()
        return value

    def worth(self, thing, env):
        return self.capped(self.bare_worth(thing, env))

    def bare_worth(self, thing, env):
        word = thing[0]
        if word in ("word", "point"):
            return thing[1]
        if word == "name":
            return env[thing[1]]
        if word == "line":
            return LINE
        if word == "row":
            return ("row", *[self.worth(part, env) for part in thing[1]])
        if word == "item":
            return self.worth(thing[2], env)[1 + thing[1]]
        if word == "set":
            values = [self.worth(part, env) for part in thing[2]]
            return made(ascending([point for value in values for point in support(value)]), values)
        if word in MIXES:
            one = self.worth(thing[1], env)
            return MIXES[word](one, self.worth(thing[2], env))
        if word == "all":
            return all_of(self.worth(thing[1], env))
        if word == "call":
            values = [self.worth(part, env) for part in thing[2]]
            params, body = self.functions[thing[1]]
            return self.worth(body, {name: value for (name, _), value in zip(params, values)})
        over, held, found = self.worth(thing[3], env), self.held(env), []
        for value in orbits(over, held):
            self.begin()
            inner = {**env, thing[2]: value}
            if thing[4] is None or self.holds(thing[4], inner):
                found.append(self.worth(thing[1], inner))
        return made(held, found)

    def holds(self, thing, env):
        word = thing[0]
        if word == "not":
            return not self.holds(thing[1], env)
        if word == "and":
            return self.holds(thing[1], env) and self.holds(thing[2], env)
        if word == "or":
            return self.holds(thing[1], env) or self.holds(thing[2], env)
        if word in ("some", "every"):
            over, held = self.worth(thing[2], env), self.held(env)
            for value in orbits(over, held):
                self.begin()
                if self.holds(thing[3], {**env, thing[1]: value}) == (word == "some"):
                    return word == "some"
            return word == "every"
        one = self.worth(thing[1], env)
        other = self.worth(thing[2], env)
        if word == "before":
            return is_before(one, other)
        if word == "same":
            return one == other
        return is_in(one, other) if word == "in" else is_within(one, other)

    def block(self, block, env, outermost=False):
        for thing in block:
            self.statement(thing, env)
        for thing in block:
            if thing[0] == "let" and not outermost:
                del env[thing[1]]

    def statement(self, thing, env):
        word = thing[0]
        if word == "let":
            env[thing[1]] = self.worth(thing[2], env)
        elif word == "add":
            value = self.worth(thing[1], env)
            env[thing[2]] = self.capped(union(env[thing[2]], made(support(value), [value])))
        elif word == "if":
            self.block(thing[2] if self.holds(thing[1], env) else thing[3], env)
        elif word == "for":
            self.loop(thing, env)
        else:
            self.grow(thing, env)

    def loop(self, thing, env):
        over, held, behind, changed = self.worth(thing[2], env), self.held(env), dict(env), []
        for value in orbits(over, held):
            self.begin()
            inner = {**env, thing[1]: value}
            self.block(thing[3], inner)
            for name in env:
                if inner[name] != env[name]:
                    changed.append(name)
                    behind[name] = union(behind[name], made(held, orbits(inner[name], held)))
        for name in changed:
            self.capped(behind[name])
        env.update(behind)

    def grow(self, thing, env):
        within, name, before = self.worth(thing[2], env), thing[1], None
        while env[name] != before:
            before = env[name]
            self.block(thing[3], env)
            env[name] = self.capped(union(before, meeting(env[name], within)))


POINT, WORD = ("point",), ("word",)
PAIR, POINTS = ("row", POINT, POINT), ("set", POINT)
PAIRS, SETS = ("set", PAIR), ("set", POINTS)
KINDS = [POINT, WORD, PAIR, POINTS, PAIRS, SETS]
LOOPS = [POINT, POINT, POINT, PAIR, POINTS]
MOST_LOOPS = 3


class Maker:
    """Makes programs by chance, in which all names are bound and all kinds go together."""

    def __init__(self, chance):
        self.chance = chance
        self.count = 0
        self.points = chance.sample(HALVES[2:7], chance.choice([0, 1, 1, 2]))
        self.functions = {}

    def fresh(self):
        self.count += 1
        letters = "abcdefghijklmnopqrstuvwxyz"
        return "n" + letters[self.count // 26 % 26] + letters[self.count % 26]

    def some_params(self):
        return tuple((self.fresh(), self.chance.choice(KINDS)) for _ in range(self.chance.choice([0, 1, 2])))

    def program(self):
        inputs, functions = self.some_params(), []
        for _ in range(self.chance.choice([0, 0, 1, 2])):
            name, params, kind = self.fresh(), self.some_params(), self.chance.choice(KINDS)
            functions.append((name, params, self.expression(kind, dict(params), 2, 1)))
            self.functions[name] = (tuple(kind for _, kind in params), kind)
        block = self.block(dict(inputs), 3, 0, self.chance.choice([2, 3, 4, 5]))
        program = Program(inputs, tuple(functions), block)
        return program, [self.value(kind) for _, kind in inputs]

    def value(self, kind):
        if kind == POINT:
            return self.chance.choice(HALVES)
        if kind == WORD:
            return self.chance.choice("ab")
        if kind[0] == "row":
            return ("row", *[self.value(part) for part in kind[1:]])
        points = some_points(self.chance, self.chance.choice([0, 0, 1]))
        return made(points, [self.value(kind[1]) for _ in range(self.chance.choice([0, 1, 2]))])

    def words_for(self, kind, env, deep):
        """The words with which an expression of a kind may begin."""
        words = ["name"] * 4 * any(env[name] == kind for name in env)
        if deep > 0:
            words += ["join", "both", "less", "set", "each"] * (kind[0] == "set") + ["line", "line", "all"] * (kind == POINTS)
            words += ["pairs", "pairs"] * (kind[0] == "set" and kind[1][0] == "row") + ["item"] * (kind in (POINT, WORD))
            words += ["call"] * any(told == kind for _, told in self.functions.values())
        words += ["point"] * (kind == POINT and len(self.points) > 0) + ["word"] * (kind == WORD) + ["row"] * (kind[0] == "row")
        return words

    def expression(self, kind, env, deep, loops):
        chance, words = self.chance, self.words_for(kind, env, deep)
        word = chance.choice(words) if words else "none"
        if word == "none" or word == "each" and loops >= MOST_LOOPS:
            return ("point", (0, 1)) if kind == POINT else ("set", kind[1], ())
        if word == "name":
            return ("name", chance.choice([name for name in env if env[name] == kind]))
        if word in ("line", "point", "word"):
            return {"line": ("line",), "point": ("point", (self.points or [(0, 1)])[0]), "word": ("word", chance.choice("ab"))}[word]
        if word in ("join", "both", "less"):
            return (word, self.expression(kind, env, deep - 1, loops), self.expression(kind, env, deep - 1, loops))
        if word == "set":
            return ("set", kind[1], tuple(self.expression(kind[1], env, deep - 1, loops) for _ in range(chance.choice([0, 1, 1, 2]))))
        if word == "row":
            return ("row", tuple(self.expression(part, env, deep - 1, loops) for part in kind[1:]))
        if word == "pairs":
            return ("pairs", *[self.expression(("set", part), env, deep - 1, loops) for part in kind[1][1:]])
        if word == "all":
            return ("all", self.expression(("set", kind), env, deep - 1, loops))
        if word == "item":
            kinds = chance.choice([(kind, POINT), (WORD, kind)])
            return ("item", kinds.index(kind), self.expression(("row", *kinds), env, deep - 1, loops))
        if word == "call":
            name = chance.choice([name for name in self.functions if self.functions[name][1] == kind])
            return ("call", name, tuple(self.expression(part, env, deep - 1, loops) for part in self.functions[name][0]))
        name, part = self.fresh(), chance.choice(LOOPS)
        over, inner = self.expression(("set", part), env, deep - 1, loops), {**env, name: part}
        condition = None if chance.random() < 0.3 else self.condition(inner, deep - 1, loops + 1)
        return ("each", self.expression(kind[1], inner, deep - 1, loops + 1), name, over, condition)

    def condition(self, env, deep, loops):
        chance = self.chance
        word = chance.choice(["before", "before", "same", "in", "in", "within", "not", "and", "or", "some", "every"])
        if deep <= 0 or word in ("some", "every") and loops >= MOST_LOOPS:
            word = chance.choice(["before", "same", "in", "in"])
        if word in ("not", "and", "or"):
            return (word, *[self.condition(env, deep - 1, loops) for _ in range(1 if word == "not" else 2)])
        if word in ("some", "every"):
            name, kind = self.fresh(), chance.choice(LOOPS)
            over = self.expression(("set", kind), env, deep - 1, loops)
            return (word, name, over, self.condition({**env, name: kind}, deep - 1, loops + 1))
        kind = chance.choice({"before": [POINT], "same": KINDS[:5], "in": [POINT, POINT, PAIR, POINTS, WORD], "within": [POINTS, PAIRS]}[word])
        other = ("set", kind) if word == "in" else kind
        return (word, self.expression(kind, env, deep - 1, loops), self.expression(other, env, deep - 1, loops))

    def block(self, env, deep, loops, many):
        env = dict(env)
        return tuple(self.statement(env, deep, loops) for _ in range(many))

    def statement(self, env, deep, loops):
        chance, sets = self.chance, [name for name in env if env[name][0] == "set"]
        word = chance.choice(["let", "add", "add", "add", "for", "for", "if", "grow"])
        if word != "let" and deep <= 0 or word == "for" and loops >= MOST_LOOPS:
            word = "add"
        if word in ("add", "grow") and not sets:
            word = "let"
        if word == "let":
            name, kind = self.fresh(), chance.choice(KINDS)
            thing = ("let", name, self.expression(kind, env, min(deep, 2), loops))
            env[name] = kind
            return thing
        if word == "add":
            name = chance.choice(sets)
            return ("add", self.expression(env[name][1], env, min(deep, 2), loops), name)
        if word == "if":
            condition = self.condition(env, 2, loops)
            return ("if", condition, *[self.block(env, deep - 1, loops, chance.choice([0, 1, 2])) for _ in range(2)])
        if word == "for":
            name, kind = self.fresh(), chance.choice(LOOPS)
            over = self.expression(("set", kind), env, 2, loops)
            return ("for", name, over, self.block({**env, name: kind}, deep - 1, loops + 1, chance.choice([1, 2])))
        name = chance.choice(sets)
        return ("grow", name, self.expression(env[name], env, 2, loops), self.block(env, deep - 1, loops, chance.choice([1, 2])))
