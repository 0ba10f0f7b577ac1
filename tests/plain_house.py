"""A house worked out anew for each question from its scripts alone, and deeds made from a seed."""

from gapwise.algebra import both, join, less
from gapwise.deeds import behind, differences
from gapwise.errors import BadName, Clash, LineError, NoDeed, NothingDone, NotThere, TooMany, UnknownName
from gapwise.making import EMPTY, made
from gapwise.values import is_set
from tests.helping import HALVES, copy_of, some_points, some_set, some_value

ERRORS = (LineError, NotThere)


def state_behind(deeds):
    state = {}
    for deed in deeds:
        state = behind(state, deed)
    return state


def is_place(number, many):
    return type(number) is int and 0 <= number < many


class PlainHouse:
    """The branches as pairs of a script and a place."""

    def __init__(self):
        self.all = {"main": ([], 0)}
        self.here = "main"

    def call(self, word, *parts):
        """What the call returns, or the class of its error and what it bears; an error changes nothing."""
        kept = copy_of([self.all, self.here])
        try:
            return getattr(self, word)(*parts)
        except ERRORS as error:
            self.all, self.here = kept
            return type(error), {name: worth for name, worth in vars(error).items() if name != "called"}

    def keep(self, script, place):
        state_behind(script)
        self.all[self.here] = (script, place)
        return place

    def do(self, deed):
        script, place = self.all[self.here]
        behind(state_behind(script[:place]), deed)
        if place == 60:
            raise TooMany()
        return self.keep(script[:place] + [deed], place + 1)

    def undo(self):
        script, place = self.all[self.here]
        if place == 0:
            raise NothingDone()
        return self.keep(script, place - 1)

    def redo(self):
        script, place = self.all[self.here]
        if place == len(script):
            raise NothingDone()
        return self.keep(script, place + 1)

    def branch(self, name):
        if not isinstance(name, str) or not name.isalpha() or not name.islower() or len(name) > 8 or name in self.all:
            raise BadName(name)
        if len(self.all) == 6:
            raise TooMany()
        script, place = self.all[self.here]
        self.all[name] = (script[:place], place)

    def known(self, name):
        if not isinstance(name, str) or name not in self.all:
            raise UnknownName(name)
        return self.all[name]

    def go(self, name):
        _, place = self.known(name)
        self.here = name
        return place

    def script(self, name):
        return self.known(name)[0]

    def place(self, name):
        return self.known(name)[1]

    def state(self):
        script, place = self.all[self.here]
        return state_behind(script[:place])

    def state_at(self, number):
        script, _ = self.all[self.here]
        if not is_place(number, len(script) + 1):
            raise NoDeed(number)
        return state_behind(script[:number])

    def edit(self, number, deed):
        script, place = self.all[self.here]
        if not is_place(number, len(script)):
            raise NoDeed(number)
        return self.keep([*script[:number], deed, *script[number + 1:]], place)

    def insert(self, number, deed):
        script, place = self.all[self.here]
        if not is_place(number, len(script) + 1):
            raise NoDeed(number)
        if len(script) == 60:
            raise TooMany()
        return self.keep([*script[:number], deed, *script[number:]], place + 1 if number <= place else place)

    def remove(self, number):
        script, place = self.all[self.here]
        if not is_place(number, len(script)):
            raise NoDeed(number)
        return self.keep([*script[:number], *script[number + 1:]], place - 1 if number < place else place)

    def may_swap(self, number):
        script, _ = self.all[self.here]
        if not is_place(number, len(script) - 1):
            raise NoDeed(number)
        other = list(script)
        other[number], other[number + 1] = other[number + 1], other[number]
        try:
            return all(state_behind(script[:at]) == state_behind(other[:at]) for at in range(len(script) + 1) if at != number + 1)
        except ERRORS:
            return False

    def merge(self, name):
        (script, place), (others, many) = self.all[self.here], self.known(name)
        row = [one == other for one, other in zip(script[:place], others[:many])]
        common = row.index(False) if False in row else len(row)
        if common == many:
            return place
        w, h, t = state_behind(script[:common]), state_behind(script[:place]), state_behind(others[:many])
        new, clashes, sets = {}, [], []
        for one in sorted({*w, *h, *t}):
            old, mine, his = w.get(one), h.get(one), t.get(one)
            if his == old:
                new[one] = mine
            elif mine == old:
                new[one] = his
            elif mine == his:
                new[one] = mine
            elif mine is not None and his is not None and is_set(mine) and is_set(his) and (old is None or is_set(old)):
                sets.append(one)
            else:
                clashes.append(one)
        if clashes:
            raise Clash(tuple(clashes))
        for one in sets:
            old = w.get(one, EMPTY)
            new[one] = join(both(h[one], t[one]), join(less(h[one], old), less(t[one], old)))
        new = {one: new[one] for one in sorted(new) if new[one] is not None}
        deeds = [("drop", one) for one in sorted(h) if one not in new] + [("name", one, new[one]) for one in new if h.get(one) != new[one]]
        if len(new) > 8 or place + len(deeds) > 60:
            raise TooMany()
        for deed in deeds:
            place = self.do(deed)
        return place

    def would_change(self, deeds):
        kept, before = copy_of([self.all, self.here]), self.state()
        try:
            for deed in deeds:
                self.do(deed)
            return differences(before, self.state())
        finally:
            self.all, self.here = kept

    def tried(self, deeds):
        return [self.do(deed) for deed in deeds]


BAD_DEEDS = [None, [], ("drop",), ("name", "A", "a"), ("drop", "zz"), ("add", "w", ZERO := (0, 1)), ("name", "far", (2, 2)), ("move", None), ("run", (), (), (("let", "a", ("lane",)),)), ("cut", "zz", ZERO), ["drop", "far"]]
RUNS = [
    ("run", (("a", ("set", ("point",))),), (), (("let", "b", ("less", ("line",), ("name", "a"))),)),
    ("run", (("a", ("set", ("point",))), ("b", ("set", ("point",)))), (), (("let", "c", ("join", ("name", "a"), ("name", "b"))), ("let", "d", ("both", ("name", "a"), ("name", "b"))))),
    ("run", (), (), (("let", "a", ("line",)),)),
    ("run", (("p", ("point",)),), (), (("let", "a", ("each", ("name", "x"), "x", ("line",), ("before", ("name", "p"), ("name", "x")))),)),
    ("run", (), (), ())]


def some_deed(chance):
    draw = chance.random()
    name = chance.choice("aabbcdp")
    if draw < 0.06:
        return chance.choice(BAD_DEEDS)
    if draw < 0.3:
        return ("name", name, chance.choice(HALVES) if name == "p" else some_set(chance, 1) if chance.random() < 0.3 else made(some_points(chance, chance.choice([0, 1])), [chance.choice(HALVES)]))
    if draw < 0.7:
        return (chance.choice(["add", "add", "cut"]), chance.choice("aabbcd"), chance.choice(HALVES) if chance.random() < 0.8 else some_value(chance, 1))
    if draw < 0.78:
        return ("drop", name)
    if draw < 0.93:
        return chance.choice(RUNS)
    return ("move", tuple((point, (point[0] + point[1], point[1])) for point in (HALVES if chance.random() < 0.8 else HALVES[:4])))
