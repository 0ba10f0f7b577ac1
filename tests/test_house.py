import unittest

from gapwise.algebra import both, join, less
from gapwise.deeds import behind, deed_text, read_deed, reads, writes
from gapwise.errors import BadDeed, BadName, BadSample, Clash, LineError, NoDeed, NothingDone, NotThere, TooMany, UnknownName
from gapwise.house import House
from gapwise.making import EMPTY, LINE, is_in, made, orbits
from gapwise.placing import moved
from gapwise.samples import count
from gapwise.sizes import Size
from gapwise.values import is_set
from tests.helping import HALVES, copy_of, is_same_thing, seeded, some_points
from tests.plain_house import ERRORS, RUNS, PlainHouse, some_deed, state_behind
from tests.relations import HALF, ONE, THREE, TWO, ZERO, only
from tests.test_deeds import NO_WORDS

ABOVE = ("set", (ZERO,), (ONE,))
NAME, OTHER = ("name", "far", ABOVE), ("name", "w", "a")
ADD = ("add", "far", ZERO)
LOW = ("run", (("far", ("set", ("point",))),), (), (("let", "low", ("less", ("line",), ("name", "far"))),))
NO_NUMBERS = (-1, 99, None, True, False, "0", (0,), [0], {"a": 1}, 10 ** 39)


def told(call, *parts):
    try:
        return call(*parts)
    except ERRORS as error:
        return type(error), {name: worth for name, worth in vars(error).items() if name != "called"}


def house_of(*deeds):
    house = House()
    house.tried(list(deeds))
    return house


def picture(house):
    """All that a house tells of itself."""
    return [house.here(), house.branches(), [(house.script(name), house.place(name)) for name in house.branches()], house.state(), [house.state_at(number) for number in range(len(house.script(house.here())) + 1)]]


def house_with_side():
    """A house in a branch that was made with a deed undone."""
    house = house_of(NAME, OTHER)
    house.undo()
    house.branch("side")
    house.go("side")
    return house


class Deeds(unittest.TestCase):
    def test_a_new_house(self):
        self.assertEqual(picture(House()), ["main", ["main"], [([], 0)], {}, [{}]])
        self.assertEqual(House(), House())

    def test_done_undone_redone(self):
        house = House()
        self.assertEqual([house.do(NAME), house.do(OTHER), house.do(ADD), house.undo(), house.undo()], [1, 2, 3, 2, 1])
        self.assertEqual([house.state(), house.script("main"), house.place("main")], [{"far": ABOVE}, [NAME, OTHER, ADD], 1])
        self.assertEqual([house.redo(), house.state()], [2, {"far": ABOVE, "w": "a"}])
        # The deeds that are not done are cut off.
        self.assertEqual([house.do(("drop", "w")), house.script("main"), told(house.redo)], [3, [NAME, OTHER, ("drop", "w")], (NothingDone, {})])
        self.assertEqual([house.undo(), house.undo(), house.undo(), told(house.undo), house.state()], [2, 1, 0, (NothingDone, {}), {}])
        self.assertEqual([house.redo(), house.redo(), house.redo(), told(house.redo)], [1, 2, 3, (NothingDone, {})])

    def test_states(self):
        house = house_of(NAME, OTHER, ADD)
        house.undo()
        self.assertEqual([house.state_at(number) for number in range(4)], [{}, {"far": ABOVE}, {"far": ABOVE, "w": "a"}, {"far": join(ABOVE, only(ZERO)), "w": "a"}])
        for number in (*NO_NUMBERS, 4):
            self.assertEqual(told(house.state_at, number), (NoDeed, {"number": number}))
        self.assertRaises(NotThere, house.state_at, -1)

    def test_errors_change_nothing(self):
        house = house_of(NAME, OTHER, ADD)
        house.undo()
        for deed in (None, ("drop", "zz"), ("name", "A", "a"), ["drop", "w"], ("move", ()), ("add", "w", ZERO)):
            before = picture(house)
            for call in (house.do, lambda one: house.tried([("drop", "w"), one]), lambda one: house.edit(0, one), lambda one: house.insert(1, one), lambda one: house.would_change([one])):
                self.assertIsInstance(told(call, deed), tuple)
                self.assertEqual(picture(house), before)
        self.assertEqual(told(house.do, [1]), (BadDeed, {}))

    def test_sixty_deeds(self):
        house = House()
        for number in range(60):
            self.assertEqual(house.do(("name", "p", (number, 1))), number + 1)
        self.assertEqual(told(house.do, ("drop", "p")), (TooMany, {}))
        # The deed's own errors come first.
        self.assertEqual(told(house.do, ("drop", "q")), (UnknownName, {"name": "q"}))
        self.assertEqual(told(house.insert, 3, ("drop", "q")), (TooMany, {}))
        self.assertEqual(told(house.insert, 61, ("drop", "q")), (NoDeed, {"number": 61}))
        self.assertEqual(told(house.would_change, [("drop", "p")]), (TooMany, {}))
        self.assertEqual([house.undo(), house.do(("drop", "p")), len(house.script("main")), house.state()], [59, 60, 60, {}])
        self.assertEqual([house.undo(), house.undo(), told(house.tried, [("drop", "p"), ("name", "p", "a"), ("drop", "p")])], [59, 58, (TooMany, {})])
        self.assertEqual(house.tried([("drop", "p"), ("name", "p", "a")]), [59, 60])
        self.assertEqual(house.remove(0), 59)

    def test_tried(self):
        house = house_of(NAME, OTHER)
        house.undo()
        self.assertEqual([house.tried([]), house.script("main")], [[], [NAME, OTHER]])
        self.assertEqual([house.tried((ADD, OTHER)), house.script("main")], [[2, 3], [NAME, ADD, OTHER]])
        self.assertEqual(told(house.tried, [("drop", "w"), ("drop", "w")]), (UnknownName, {"name": "w"}))
        self.assertEqual(picture(house), picture(house_of(NAME, ADD, OTHER)))


class Branches(unittest.TestCase):
    def test_branches(self):
        house = house_of(NAME, OTHER)
        house.undo()
        self.assertIsNone(house.branch("side"))
        self.assertEqual([house.here(), house.branches(), house.script("side"), house.place("side")], ["main", ["main", "side"], [NAME], 1])
        self.assertEqual([house.do(ADD), house.go("side"), house.state(), house.do(LOW), house.go("main")], [2, 1, {"far": ABOVE}, 2, 2])
        self.assertEqual([house.script("main"), house.script("side")], [[NAME, ADD], [NAME, LOW]])
        self.assertEqual(house.go("main"), 2)
        for number in (2, 3):
            self.assertEqual(told(house_with_side().state_at, number), (NoDeed, {"number": number}))

    def test_names(self):
        house = house_of(NAME)
        for name in (*NO_WORDS, "main"):
            before = picture(house)
            self.assertEqual(told(house.branch, name), (BadName, {"name": name}))
            self.assertEqual(picture(house), before)
        for call in (house.go, house.script, house.place, house.merge):
            for name in (*NO_WORDS, "side"):
                self.assertEqual(told(call, name), (UnknownName, {"name": name}))
        name = ["a", ["b"]]
        for call in (house.go, house.branch):
            with self.assertRaises(ERRORS) as caught:
                call(name)
            self.assertIsNot(caught.exception.name, name)
            self.assertIsNot(caught.exception.name[1], name[1])

    def test_six_branches(self):
        house = House()
        for name in "abcde":
            house.branch(name)
        self.assertEqual([told(house.branch, "f"), told(house.branch, "a"), told(house.branch, "F")], [(TooMany, {}), (BadName, {"name": "a"}), (BadName, {"name": "F"})])
        self.assertEqual(house.branches(), ["main", "a", "b", "c", "d", "e"])

    def test_told_things_are_new(self):
        house = house_of(NAME, OTHER)
        for call in (house.state, house.branches, lambda: house.state_at(1), lambda: house.script("main"), lambda: house.hangs_on("far"), lambda: house.trace(()), lambda: house.would_change([ADD]), lambda: house.tried([])):
            kept = copy_of(call())
            first = call()
            first.clear()
            self.assertEqual(call(), kept)
        for call in (house.trace,):
            first = call((ZERO,))
            first[1].clear()
            self.assertEqual(call((ZERO,))[1], {"far": 0})
        deeds = [ADD]
        house.tried(deeds)
        deeds.append(None)
        self.assertEqual(house.script("main"), [NAME, OTHER, ADD])

    def test_twins_and_equal_houses(self):
        house = house_of(NAME, OTHER)
        house.branch("side")
        twin = house.twin()
        self.assertEqual([twin == house, twin is house, picture(twin)], [True, False, picture(house)])
        changes = [lambda one: one.undo(), lambda one: one.go("side"), lambda one: one.branch("more"), lambda one: one.do(ADD), lambda one: one.edit(0, ("name", "far", EMPTY)), lambda one: one.remove(1)]
        for change in changes:
            before = picture(house)
            twin = house.twin()
            change(twin)
            self.assertNotEqual(twin, house)
            self.assertEqual(picture(house), before)
            change(house)
            self.assertEqual(twin, house)
        one, other = House(), House()
        for name in "ab":
            one.branch(name)
        for name in "ba":
            other.branch(name)
        self.assertNotEqual(one, other)
        for thing in (None, 7, "main", {}, [], Size(1, []), {"main": []}):
            self.assertNotEqual(House(), thing)
        done, undone = house_of(NAME), house_of(NAME)
        undone.undo()
        self.assertNotEqual(done, undone)
        undone.redo()
        self.assertEqual(done, undone)


class Edits(unittest.TestCase):
    def test_places(self):
        for number in range(4):
            for place in range(4):
                house = house_of(("name", "a", "x"), ("name", "b", "x"), ("name", "c", "x"))
                for _ in range(3 - place):
                    house.undo()
                twin, third = house.twin(), house.twin()
                self.assertEqual([house.insert(number, ("name", "d", "x")), house.place("main")], [place + (number <= place)] * 2)
                self.assertEqual(house.script("main")[number], ("name", "d", "x"))
                if number < 3:
                    self.assertEqual([twin.edit(number, ("name", "d", "x")), twin.place("main")], [place] * 2)
                    self.assertEqual([third.remove(number), third.place("main")], [place - (number < place)] * 2)
                    self.assertEqual([len(twin.script("main")), len(third.script("main"))], [3, 2])

    def test_done_anew(self):
        house = house_of(NAME, ADD, LOW)
        house.undo()
        self.assertEqual([house.edit(0, ("name", "far", EMPTY)), house.state(), house.redo(), house.state()["low"]], [2, {"far": only(ZERO)}, 3, less(LINE, only(ZERO))])
        self.assertEqual([house.insert(2, ("add", "far", ONE)), house.state()["low"]], [3 + 1, less(LINE, made((ZERO, ONE), [ZERO, ONE]))])
        self.assertEqual([house.remove(1), house.state()], [3, {"far": only(ONE), "low": less(LINE, only(ONE))}])

    def test_errors(self):
        house = house_of(NAME, ADD, LOW, OTHER)
        house.undo()
        house.undo()
        before = picture(house)
        for number in (*NO_NUMBERS, 4, 5):
            self.assertEqual(told(house.edit, number, None), (NoDeed, {"number": number}))
            self.assertEqual(told(house.remove, number), (NoDeed, {"number": number}))
            if number != 4:
                self.assertEqual(told(house.insert, number, None), (NoDeed, {"number": number}))
        self.assertEqual(told(house.insert, 4, None), (BadDeed, {}))
        self.assertEqual(told(house.edit, 0, ("drop", "far")), (UnknownName, {"name": "far"}))
        self.assertEqual(told(house.remove, 0), (UnknownName, {"name": "far"}))
        # Later deeds that the state does not let, done or not.
        self.assertEqual(told(house.edit, 0, ("name", "near", ABOVE)), (UnknownName, {"name": "far"}))
        self.assertEqual(told(house.edit, 0, ("name", "far", "a"))[1], {"name": "far"})
        self.assertEqual(told(house.edit, 1, ("name", "far", only("a")))[1], {"name": "far"})
        self.assertEqual(told(house.insert, 2, ("drop", "far")), (UnknownName, {"name": "far"}))
        self.assertEqual(told(house.insert, 1, ("name", "far", "a"))[1], {"name": "far"})
        self.assertEqual(picture(house), before)
        self.assertRaises(LineError, house.edit, 0, None)


class Hanging(unittest.TestCase):
    def test_known_ones(self):
        house = house_of(NAME, OTHER, ADD, LOW)
        self.assertEqual([house.hangs_on("low"), house.hangs_on("w"), house.hangs_on("far")], [[0, 2, 3], [1], [0, 2]])
        for name in (*NO_WORDS, "near"):
            self.assertEqual(told(house.hangs_on, name), (UnknownName, {"name": name}))
        house.undo()
        self.assertEqual(told(house.hangs_on, "low"), (UnknownName, {"name": "low"}))
        self.assertEqual([house.do(NAME), house.hangs_on("far")], [4, [3]])
        self.assertEqual([house.do(("drop", "w")), house.do(OTHER), house.hangs_on("w")], [5, 6, [5]])
        self.assertEqual([house.do(("move", ((ZERO, ONE),))), house.hangs_on("w"), house.hangs_on("far")], [7, [5, 6], [3, 6]])
        self.assertEqual([house.do(OTHER), house.hangs_on("w")], [8, [7]])

    def test_runs(self):
        two = ("run", (("far", ("set", ("point",))),), (), (("let", "a", ("name", "far")), ("let", "b", ("line",))))
        house = house_of(NAME, two, ("name", "a", "x"), ("cut", "b", ZERO))
        self.assertEqual([house.hangs_on("a"), house.hangs_on("b")], [[2], [0, 1, 3]])
        # A run that binds its own input's name, and one that reads nothing.
        own = ("run", (("far", ("set", ("point",))),), (), (("let", "low", ("name", "far")),))
        house = house_of(NAME, OTHER, own, LOW, ("move", ((ZERO, TWO),)))
        self.assertEqual([house.hangs_on("low"), house.hangs_on("w")], [[0, 3, 4], [1, 4]])

    def test_the_told_deeds_alone_give_the_value(self):
        chance, tested = seeded(271), 0
        for _ in range(150):
            house = House()
            for _ in range(12):
                told(house.do, some_deed(chance))
            script = house.script("main")
            for name in house.state():
                numbers = house.hangs_on(name)
                self.assertEqual(numbers, sorted(set(numbers)))
                self.assertEqual(numbers, plain_hangs(script, name))
                found = told(state_behind, [script[number] for number in numbers])
                if isinstance(found, dict):
                    tested += 1
                    self.assertEqual(found[name], house.state()[name])
        self.assertGreater(tested, 200)

    def test_may_swap(self):
        house = house_of(NAME, OTHER, ADD, LOW)
        self.assertEqual([house.may_swap(number) for number in range(3)], [True, True, False])
        house.undo()
        house.undo()
        house.undo()
        self.assertEqual([house.may_swap(number) for number in range(3)], [True, True, False])
        for number in (*NO_NUMBERS, 3, 4):
            self.assertEqual(told(house.may_swap, number), (NoDeed, {"number": number}))
        for number in (0, 1):
            self.assertEqual(told(House().may_swap, number), (NoDeed, {"number": number}))
            self.assertEqual(told(house_of(NAME).may_swap, number), (NoDeed, {"number": number}))
        # The same values at the end, whatever is written.
        self.assertEqual([house_of(NAME, ADD, ("cut", "far", ONE)).may_swap(1), house_of(NAME, ADD, ("cut", "far", ZERO)).may_swap(1), house_of(OTHER, OTHER).may_swap(0)], [True, False, True])
        self.assertEqual(house_of(OTHER, ("name", "w", "b")).may_swap(0), False)
        names = [("name", name, "x") for name in "abcdefgh"]
        self.assertEqual(house_of(*names, ("drop", "a"), ("name", "i", "x")).may_swap(8), False)
        self.assertEqual(house_of(*names[:7], ("drop", "a"), ("name", "i", "x")).may_swap(7), True)


def plain_hangs(script, name):
    """By the words: back through the deeds, with a lot of wanted names."""
    wanted, found = {name}, []
    for number in reversed(range(len(script))):
        if not wanted:
            break
        deed = script[number]
        if deed[0] == "move":
            found.append(number)
        elif set(writes(deed)) & wanted:
            found.append(number)
            wanted = (wanted - set(writes(deed))) | set(reads(deed))
    return sorted(found)


class Merging(unittest.TestCase):
    def merged(self, ahead, mine, his):
        """The house behind a merge of two branches that part behind some deeds, and what merge tells."""
        house = house_of(*ahead)
        house.branch("side")
        house.go("side")
        house.tried(his)
        house.go("main")
        house.tried(mine)
        return house, told(house.merge, "side")

    def test_each_case(self):
        b, c = ("name", "w", "b"), ("name", "w", "c")
        for ahead, mine, his, state, deeds in (
                ([OTHER], [b], [NAME], {"far": ABOVE, "w": "b"}, [NAME]),
                ([OTHER], [], [b], {"w": "b"}, [b]),
                ([OTHER], [b], [b, NAME], {"far": ABOVE, "w": "b"}, [NAME]),
                ([OTHER], [NAME], [b, c], {"far": ABOVE, "w": "c"}, [c]),
                ([OTHER, NAME], [b], [("drop", "far")], {"w": "b"}, [("drop", "far")]),
                ([OTHER, NAME], [("drop", "w")], [("drop", "far")], {}, [("drop", "far")]),
                ([OTHER, NAME], [("drop", "w")], [("drop", "w"), ("name", "q", "x")], {"far": ABOVE, "q": "x"}, [("name", "q", "x")]),
                ([NAME], [("add", "far", ZERO)], [("cut", "far", TWO), ("add", "far", (-5, 1))], {"far": less(join(ABOVE, made(((-5, 1), ZERO), [ZERO, (-5, 1)])), only(TWO))}, None),
                ([], [NAME], [("name", "far", only(ZERO))], {"far": join(ABOVE, only(ZERO))}, None),
                ([("name", "far", EMPTY)], [("name", "far", made((), ["a", "b"]))], [("name", "far", made((), ["b", "c"]))], {"far": made((), ["a", "b", "c"])}, None),
                ([("name", "far", made((), ["a", "b", "c"]))], [("cut", "far", "a")], [("cut", "far", "b")], {"far": made((), ["c"])}, None),
                ([NAME], [("cut", "far", ONE)], [("cut", "far", ONE), ("add", "far", ONE)], {"far": ABOVE}, None),
                ([NAME], [("cut", "far", ONE)], [("add", "far", ZERO), ("cut", "far", ZERO)], {"far": less(ABOVE, only(ONE))}, [])):
            house, place = self.merged(ahead, mine, his)
            script = [*ahead, *mine, *(deeds if deeds is not None else [("name", "far", state["far"])])]
            self.assertEqual([house.state(), house.script("main"), place], [state, script, len(script)])
            self.assertEqual([house.script("side"), house.here()], [[*ahead, *his], "main"])

    def test_clashes(self):
        for mine, his in ((("name", "w", "b"), ("name", "w", "c")), (("drop", "w"), ("name", "w", "c")), (("name", "w", "b"), ("drop", "w")), (("name", "w", LINE), ("name", "w", ABOVE)), (("name", "n", "b"), ("name", "n", "c")),
                          (("name", "n", LINE), ("name", "n", "c"))):
            house, place = self.merged([OTHER], [mine], [his])
            self.assertEqual(place, (Clash, {"names": (mine[1],)}))
            self.assertEqual(house.script("main"), [OTHER, mine])
        house, place = self.merged([OTHER, NAME], [("name", "z", "b"), ("name", "w", "b"), ("name", "far", "b"), ("name", "c", "x")], [("name", "z", "c"), ("name", "w", "c"), ("drop", "far"), ("name", "c", "x")])
        self.assertEqual(place, (Clash, {"names": ("far", "w", "z")}))
        self.assertIs(type(place[1]["names"]), tuple)

    def test_nothing_is_done(self):
        house = house_of(NAME, OTHER)
        house.branch("side")
        self.assertEqual([house.merge("side"), house.merge("main"), house.undo(), house.merge("side")], [2, 2, 1, 2])
        house = house_of(NAME, OTHER)
        house.branch("side")
        house.do(ADD)
        self.assertEqual([house.merge("side"), len(house.script("main"))], [3, 3])
        # Deeds that are not done stay where nothing is needed; the other branch's are none of the row.
        house = house_of(NAME, OTHER)
        house.branch("side")
        house.go("side")
        house.tried([ADD, ("cut", "far", ZERO)])
        house.go("main")
        house.do(("name", "w", "b"))
        house.undo()
        self.assertEqual([house.merge("side"), len(house.script("main"))], [2, 3])
        self.assertEqual([house.go("side"), house.undo(), house.go("main"), house.merge("side"), len(house.script("main"))], [4, 3, 2, 3, 3])
        self.assertEqual(house.script("main")[2], ("name", "far", join(ABOVE, only(ZERO))))

    def test_too_many(self):
        words = [a + b for a in "abcdefghijklmnopqrstuvwxyz" for b in "abcdefghijklmnopqrstuvwxyz"]
        first, second = made((), words[:400]), made((), words[300:676])
        house, place = self.merged([], [("name", "far", first)], [("name", "far", second)])
        self.assertEqual(place, (TooMany, {}))
        self.assertEqual(house.script("main"), [("name", "far", first)])
        house, place = self.merged([], [("name", name, "x") for name in "abcde"], [("name", name, "x") for name in "fghi"])
        self.assertEqual([place, len(house.script("main"))], [(TooMany, {}), 5])
        house, place = self.merged([], [("name", name, "x") for name in "abcde"], [("name", name, "x") for name in "fgh"])
        self.assertEqual(place, 8)
        # Names that are dropped make place for others.
        house, place = self.merged([("name", name, "x") for name in "abcdefgh"], [], [("drop", "h"), ("name", "i", "x")])
        self.assertEqual([place, list(house.state())], [10, list("abcdefgi")])
        for many in (57, 58):
            house, place = self.merged([OTHER], [("name", "p", (k, 1)) for k in range(many)], [("name", "q", "x"), ("name", "r", "x")])
            self.assertEqual(place, 60 if many == 57 else (TooMany, {}))
            self.assertEqual(len(house.script("main")), 60 if many == 57 else many + 1)
        # A clash comes ahead of what is too many.
        house, place = self.merged([], [("name", "far", first), ("name", "w", "a")], [("name", "far", second), ("name", "w", "b")])
        self.assertEqual(place, (Clash, {"names": ("w",)}))

    def test_member_by_member(self):
        chance, seen = seeded(272), 0
        for _ in range(80):
            ahead = [("name", "a", made(some_points(chance, chance.choice([0, 1])), [chance.choice(HALVES)]))]
            sides = [[(chance.choice(["add", "cut"]), "a", chance.choice(HALVES)) for _ in range(chance.choice([1, 2, 3]))] for _ in range(2)]
            house, place = self.merged(ahead, *sides)
            self.assertIsInstance(place, int)
            row = [one == other for one, other in zip(*sides)]
            shared = sides[0][:row.index(False) if False in row else len(row)]
            w, h, t = (state_behind(deeds)["a"] for deeds in (ahead + shared, ahead + sides[0], ahead + sides[1]))
            for point in [*HALVES, (1, 3), (99, 1)]:
                was, mine, his = (is_in(point, many) for many in (w, h, t))
                self.assertEqual(is_in(point, house.state()["a"]), his if mine == was else mine)
                seen += was != mine and was == his
        self.assertGreater(seen, 50)


class Traces(unittest.TestCase):
    def test_trace(self):
        house = house_of(NAME, OTHER, ADD, LOW, ("name", "all", LINE), ("drop", "far"))
        house.undo()
        expected = [{}, {"far": 2}, {"far": 2}, {"far": 3}, {"far": 3, "low": 1}, {"all": 4, "far": 3, "low": 1}]
        told_trace = house.trace(((-1, 1), ZERO, ONE, TWO))
        self.assertEqual([told_trace, [list(one) for one in told_trace]], [expected, [list(one) for one in expected]])
        self.assertEqual(house.trace(()), [{}, {}, {}, {}, {}, {"all": 0}])
        self.assertEqual(house.trace((ONE,))[-1], {"all": 1})
        self.assertEqual(House().trace((ONE,)), [{}])
        for sample in (None, [], [ZERO], (ONE, ZERO), (ZERO, ZERO), ("a",), ((2, 2),), ((True, 1),), 7, "ab", {}, (ZERO, [1, 1])):
            self.assertEqual(told(house.trace, sample), (BadSample, {}))

    def test_would_change(self):
        house = house_of(NAME, OTHER, ADD)
        house.undo()
        before = picture(house)
        self.assertEqual(house.would_change([ADD, ("drop", "w")]), {"far": ("sets", EMPTY, only(ZERO)), "w": ("values", "a", None)})
        self.assertEqual([house.would_change([]), house.would_change(()), house.would_change([ADD, ("cut", "far", ZERO)])], [{}, {}, {}])
        self.assertEqual(told(house.would_change, [ADD, None, ("drop", "zz")]), (BadDeed, {}))
        self.assertEqual(told(house.would_change, [("drop", "w"), ("drop", "w")]), (UnknownName, {"name": "w"}))
        self.assertEqual(told(house.would_change, [("name", "p", "a")] * 59), (TooMany, {}))
        self.assertEqual(house.would_change([("name", "p", "a")] * 58), {"p": ("values", None, "a")})
        words = [("row", a + b, ZERO) for a in "abcdefghijklmnopqrstuvwxyz" for b in "abcdefghijklmnopqrstuvwxyz"][:201]
        rows = house_of(("name", "r", made((), words)))
        self.assertEqual(told(rows.would_change, [("name", "r", only(ZERO))]), (TooMany, {}))
        self.assertEqual(picture(house), before)


class ByChance(unittest.TestCase):
    def test_against_a_plain_house(self):
        chance, seen = seeded(273), {}
        for _ in range(60):
            house, plain = House(), PlainHouse()
            for _ in range(40):
                word, parts = self.some_call(chance, house)
                kept = copy_of(parts)
                found, expected = told(getattr(house, word), *parts), plain.call(word, *parts)
                self.assertEqual(found, expected, (word, parts))
                self.assertTrue(is_same_thing(parts, kept))
                self.assertEqual([house.here(), house.branches()], [plain.here, list(plain.all)])
                for name in house.branches():
                    self.assertEqual((house.script(name), house.place(name)), plain.all[name])
                self.assertEqual(house.state(), plain.state())
                key = (word, found[0].__name__ if isinstance(found, tuple) else "told")
                seen[key] = seen.get(key, 0) + 1
        for word in ("do", "undo", "redo", "branch", "go", "edit", "insert", "remove", "merge", "may_swap", "tried", "would_change"):
            self.assertIn((word, "told"), seen)
        self.assertGreater(seen[("merge", "told")], 20)

    def some_call(self, chance, house):
        number = chance.choice([0, 1, 2, 3, 4, 5, 6, 8, -1, True])
        word = chance.choice(["do"] * 9 + ["undo", "undo", "redo", "branch", "go", "go", "edit", "insert", "remove", "merge", "merge", "may_swap", "tried", "would_change", "state_at"])
        if word in ("undo", "redo"):
            return word, []
        if word in ("branch", "go", "merge"):
            return word, [chance.choice(["main", "x", "y", "z", "u", "v", "w", "A"])]
        if word in ("remove", "may_swap", "state_at"):
            return word, [number]
        if word in ("edit", "insert"):
            return word, [number, some_deed(chance)]
        return word, [[some_deed(chance) for _ in range(chance.choice([0, 1, 2]))]] if word != "do" else [some_deed(chance)]

    def test_traces(self):
        chance = seeded(274)
        for _ in range(40):
            house = House()
            for _ in range(10):
                told(house.do, some_deed(chance))
            sample = some_points(chance, chance.choice([0, 3, 6, 9]))
            found = house.trace(sample)
            self.assertEqual(len(found), house.place("main") + 1)
            for number, counts in enumerate(found):
                state = house.state_at(number)
                self.assertEqual(counts, {name: count(state[name], sample) for name in state if is_set(state[name]) and set(state[name][1]) <= set(sample)})

    def test_led_houses(self):
        chance = seeded(275)
        move = tuple((point, (3 * point[0] + 40 * point[1], point[1])) for point in HALVES)
        for _ in range(40):
            one, other = House(), House()
            for _ in range(10):
                deed = some_deed(chance)
                if deed in RUNS or isinstance(deed, tuple) and deed and deed[0] in ("name", "add", "cut", "drop"):
                    try:
                        led = (*deed[:2], *[moved(part, move) for part in deed[2:]]) if deed not in RUNS else deed
                    except ERRORS:
                        continue
                    self.assertEqual(told(one.do, deed), told(other.do, led))
            self.assertEqual({name: moved(value, move) for name, value in one.state().items()}, other.state())
            sample = tuple(new for _, new in move)
            self.assertEqual(one.trace(tuple(HALVES)), other.trace(tuple(sample)))


class Texts(unittest.TestCase):
    def test_scripts_written_and_read_back(self):
        chance = seeded(276)
        for _ in range(40):
            house = House()
            for _ in range(12):
                told(house.do, some_deed(chance))
            again = House()
            self.assertEqual(again.tried([read_deed(deed_text(deed)) for deed in house.script("main")]), list(range(1, house.place("main") + 1)))
            self.assertEqual(again, house)


class Greatest(unittest.TestCase):
    def test_sixty_deeds_on_great_sets(self):
        words = [a + b for a in "abcdefghijklmnopqrstuvwxyz" for b in "abcdefghijklmnopqrstuvwxyz"]
        great = made((), [("row", word, ZERO) for word in words[:500]])
        house = House()
        for name in "abcdefgh":
            house.do(("name", name, great))
        for number in range(52):
            house.do((chance_word(number), "abcdefgh"[number % 8], words[600 + number]))
        self.assertEqual(house.edit(0, ("name", "a", EMPTY)), 60)
        self.assertEqual(house.trace((ZERO, HALF, ONE))[60]["a"], len(house.state()["a"][2]))
        for name in "vwxyz":
            house.branch(name)
        self.assertEqual(house.merge("v"), 60)
        self.assertEqual([len(house.hangs_on("h")), house.may_swap(20), len(orbits(both(house.state()["b"], great), ()))], [8 - 1, True, 500])
        self.assertEqual(behind({"a": great}, ("move", ((ZERO, THREE),)))["a"], great)


def chance_word(number):
    return "add" if number % 3 else "cut"


if __name__ == "__main__":
    unittest.main()
