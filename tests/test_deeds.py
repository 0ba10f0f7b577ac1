import unittest

from gapwise.algebra import join, less
from gapwise.deeds import behind, deed_text, differences, read_deed, reads, writes
from gapwise.errors import (
    BadDeed, BadLine, BadMove, BadName, BadProgram, BadValue, LineError, MixedKinds, NoSet, NotThere, TooMany, TwiceTold, UnknownName, WrongKind)
from gapwise.making import EMPTY, LINE, is_in, made
from gapwise.placing import moved
from gapwise.points import make_point
from gapwise.sizes import Size
from gapwise.values import value_text
from tests.helping import copy_of, is_same_thing, seeded, some_set, some_value
from tests.plainly import Maker
from tests.relations import HALF, ONE, THREE, TWO, ZERO, only

ABOVE = ("set", (ZERO,), (ONE,))
POINTS = ("set", ("point",))
STATE = {"far": ABOVE, "p": TWO, "w": "a"}
LESS = ("run", (("far", POINTS),), (), (("let", "low", ("less", ("line",), ("name", "far"))),))
NO_WORDS = ("", "A", "aaaaaaaaa", "a b", 7, None, True, ("a",), ["a"], {"a": 1}, (), ZERO)
NO_VALUES = (([0, 1], ()), ((2, 2), ()), ("", ()), (None, ()), (True, ()), ((True, 1), ()), (("row", "a", (2, 4)), (2,)), (("set", (ZERO,), ()), ()), (("set", (), (ONE,)), ()), (("row", ("set", (), ("A",))), (1, 2, 0)),
             (("row", ("row", ("row", ("row", ("row", "a"))))), ()), ({"a": []}, ()), (7, ()))
GREAT = made((), [a + b for a in "abcdefghijklmnopqrstuvwxyz" for b in "abcdefghijklmnopqrstuvwxyz"][:600])
ERRORS = (LineError, NotThere)


def told(call, *parts):
    """What a call returns, or the class of its error and what it bears."""
    try:
        return call(*parts)
    except ERRORS as error:
        return type(error), {name: worth for name, worth in vars(error).items() if name != "called"}


class Behind(unittest.TestCase):
    def check_error(self, expected, state, deed, **worths):
        kept = copy_of([state, deed])
        self.assertEqual(told(behind, state, deed), (expected, worths), deed)
        self.assertTrue(is_same_thing([state, deed], kept))

    def test_each_kind(self):
        self.assertEqual(behind({}, ("name", "far", ABOVE)), {"far": ABOVE})
        self.assertEqual(behind(STATE, ("name", "far", "b")), {"far": "b", "p": TWO, "w": "a"})
        self.assertEqual(behind(STATE, ("drop", "p")), {"far": ABOVE, "w": "a"})
        self.assertEqual(behind(STATE, ("add", "far", ZERO))["far"], join(ABOVE, only(ZERO)))
        self.assertEqual(behind(STATE, ("add", "far", HALF)), STATE)
        self.assertEqual(behind(STATE, ("cut", "far", HALF))["far"], less(ABOVE, only(HALF)))
        self.assertEqual(behind(STATE, ("cut", "far", "z")), STATE)
        self.assertEqual(behind(STATE, LESS)["low"], made((ZERO,), [ZERO, (-1, 1)]))
        self.assertEqual(behind(STATE, ("move", ((ZERO, ONE), (TWO, THREE)))), {"far": ("set", (ONE,), (TWO,)), "p": THREE, "w": "a"})
        self.assertEqual([behind({}, ("move", ())), behind({"w": "a"}, ("move", ())), behind({}, ("run", (), (), ()))], [{}, {"w": "a"}, {}])

    def test_names_ascend(self):
        state = {}
        for name in ("c", "a", "b", "aa", "ab", "z", "bb", "ba"):
            state = behind(state, ("name", name, "w"))
            self.assertEqual(list(state), sorted(state))
        run = ("run", (("z", ("word",)), ("a", ("word",))), (), (("let", "y", ("name", "a")),))
        state = behind(behind(behind({}, ("name", "z", "q")), ("name", "a", "r")), run)
        self.assertEqual(list(state.items()), [("a", "r"), ("y", "r"), ("z", "q")])

    def test_nine_names(self):
        state = {name: "w" for name in "abcdefgh"}
        self.check_error(TooMany, state, ("name", "i", "w"))
        self.assertEqual(behind(state, ("name", "h", "v"))["h"], "v")
        self.check_error(TooMany, state, ("run", (), (), (("let", "i", ("line",)),)))
        self.assertEqual(behind(state, ("run", (), (), (("let", "a", ("line",)),)))["a"], LINE)
        seven = {name: "w" for name in "abcdefg"}
        self.check_error(TooMany, seven, ("run", (), (), (("let", "x", ("line",)), ("let", "y", ("line",)))))
        self.check_error(BadValue, state, ("name", "i", []), path=())

    def test_new_states(self):
        state = dict(STATE)
        for deed in (("name", "w", "a"), ("add", "far", ONE), ("move", ((ZERO, ZERO), (TWO, TWO))), ("run", (), (), ()), ("cut", "far", ZERO)):
            found = behind(state, deed)
            self.assertEqual(found, STATE)
            self.assertIsNot(found, state)
            found.clear()
            self.assertEqual(state, STATE)

    def test_what_is_no_deed(self):
        for deed in (None, 7, True, "drop", (), ("drop",), ("drop", "p", "w"), ("name", "far"), ("name", "far", ABOVE, ()), ["drop", "p"], ("Drop", "p"), (["drop"], "p"), ("add", "far"), ("cut", "far", ZERO, ZERO), ("run", (), ()),
                     ("run", (), (), (), ()), ("move",), ("move", (), ()), {"drop": "p"}, (None, "p"), ("let", "a", "b"), (("drop", "p"),), Size(1, []), ("move", ZERO, ONE)):
            self.check_error(BadDeed, STATE, deed)

    def test_names_and_values(self):
        for name in NO_WORDS:
            self.check_error(BadName, STATE, ("name", name, []), name=name)
            for word in ("add", "cut"):
                self.check_error(UnknownName, STATE, (word, name, []), name=name)
            self.check_error(UnknownName, STATE, ("drop", name), name=name)
        for word in ("add", "cut"):
            self.check_error(UnknownName, STATE, (word, "near", ZERO), name="near")
            self.check_error(NoSet, STATE, (word, "p", []), name="p")
            self.check_error(NoSet, STATE, (word, "w", ZERO), name="w")
            self.check_error(BadValue, STATE, (word, "far", ("row", ("row", ("row", ("row", "a"))))), path=())
            behind(STATE, (word, "far", ("row", ("row", ("row", "a")))))
        self.check_error(UnknownName, STATE, ("drop", "near"), name="near")
        for value, path in NO_VALUES:
            self.check_error(BadValue, STATE, ("name", "far", value), path=path)
            self.check_error(BadValue, STATE, ("add", "far", value), path=path)
            self.check_error(BadValue, STATE, ("cut", "far", value), path=path)
        self.assertEqual(behind({}, ("name", "a", ("row", ("row", ("row", ("row", "a"))))))["a"][0], "row")

    def test_names_are_copied(self):
        name = [["a"]]
        for deed in (("name", name, "a"), ("drop", name), ("add", name, "a")):
            with self.assertRaises(ERRORS) as caught:
                behind(STATE, deed)
            self.assertEqual(caught.exception.name, name)
            self.assertIsNot(caught.exception.name, name)
            self.assertIsNot(caught.exception.name[0], name[0])

    def test_too_many_members(self):
        state = {"g": GREAT, "h": made((), GREAT[2][:300])}
        self.check_error(TooMany, state, ("add", "g", "zzz"))
        self.assertEqual(behind(state, ("add", "g", "aa")), state)
        self.assertEqual(len(behind(state, ("cut", "g", "aa"))["g"][2]), 599)
        rows = {"r": made((), [("row", word, ZERO) for word in GREAT[2][:201]])}
        for word in ("add", "cut"):
            self.check_error(TooMany, rows, (word, "r", ("row", "aa" if word == "cut" else "zzz", ZERO)))

    def test_runs(self):
        self.check_error(BadProgram, STATE, ("run", [], (), ()), path=(0,))
        self.check_error(BadProgram, STATE, ("run", (), (), (("let", "a", ("lane",)),)), path=(2, 0, 2))
        self.check_error(BadProgram, STATE, ("run", None, None, None), path=(0,))
        self.check_error(TwiceTold, STATE, ("run", (("far", POINTS), ("far", POINTS)), (), ()), name="far")
        self.check_error(UnknownName, STATE, ("run", (("near", POINTS),), (), (("let", "a", ("name", "b")),)), name="b")
        self.check_error(MixedKinds, STATE, ("run", (("near", POINTS),), (), (("let", "a", ("all", ("line",))),)), path=(2, 0, 2))
        self.check_error(UnknownName, STATE, ("run", (("near", POINTS), ("far", ("word",))), (), ()), name="near")
        self.check_error(WrongKind, STATE, ("run", (("far", ("word",)), ("near", POINTS)), (), ()), name="far")
        self.check_error(WrongKind, STATE, ("run", (("w", ("word",)), ("p", ("word",))), (), ()), name="p")
        self.check_error(WrongKind, STATE, ("run", (("far", ("set", ("word",))),), (), ()), name="far")
        self.assertEqual(behind({"e": EMPTY}, ("run", (("e", ("set", ("word",))),), (), ())), {"e": EMPTY})
        square = ("pairs", ("name", "g"), ("name", "g"))
        self.check_error(TooMany, {"g": GREAT}, ("run", (("g", ("set", ("word",))),), (), (("let", "a", square),)))

    def test_what_a_run_leaves(self):
        adds = ("run", (("far", POINTS), ("p", ("point",))), (), (("let", "got", ("name", "far")), ("add", ("name", "p"), "far"), ("add", ("point", (-2, 1)), "far"), ("let", "more", ("name", "far")), ("for", "x", ("line",), (("let", "in", ("name", "x")),))))
        found = behind(STATE, adds)
        self.assertEqual(list(found), ["far", "got", "more", "p", "w"])
        self.assertEqual([found["far"], found["got"], found["more"]], [ABOVE, ABOVE, join(ABOVE, only((-2, 1)))])
        # A let may bind a name that the state has; inputs are others.
        self.assertEqual(behind(STATE, ("run", (("far", POINTS),), (), (("let", "w", ("name", "far")),)))["w"], ABOVE)

    def test_moves(self):
        for move in (None, [], [(ZERO, ONE)], ((ZERO,),), ((ZERO, ONE, TWO),), ([ZERO, ONE],), ((ZERO, "a"),), ((ZERO, (2, 2)),), (((False, 1), ZERO), ((2, 1), ONE)), ((ZERO, ONE), (ZERO, TWO)), ((ONE, ZERO), (ZERO, ONE), (TWO, TWO)),
                     ((ZERO, ONE), (TWO, ONE)), ((ZERO, ONE), (TWO, HALF)), "move", {}, 7):
            self.check_error(BadMove, STATE, ("move", move))
            self.check_error(BadMove, {}, ("move", move))
        for move in ((), ((ZERO, ONE),), ((TWO, ONE),), ((ONE, ONE), (TWO, TWO))):
            self.check_error(BadMove, STATE, ("move", move))
        self.assertEqual(behind(STATE, ("move", ((ZERO, ZERO), (ONE, (3, 2)), (TWO, TWO)))), STATE)
        self.assertEqual(behind({"m": made((), [only(ZERO)])}, ("move", ())), {"m": made((), [only(ZERO)])})

    def test_by_chance(self):
        chance = seeded(261)
        for _ in range(150):
            state = {name: some_value(chance, 2) if chance.random() < 0.5 else some_set(chance, 2) for name in chance.sample(["a", "b", "c"], 2)}
            state = {name: state[name] for name in sorted(state)}
            sets = [name for name in state if isinstance(state[name], tuple) and state[name][0] == "set"]
            value = some_value(chance, 2)
            if sets:
                name = chance.choice(sets)
                grown, shrunk = told(behind, state, ("add", name, value)), told(behind, state, ("cut", name, value))
                if isinstance(grown, dict):
                    self.assertTrue(is_in(value, grown[name]))
                    self.assertEqual(less(grown[name], state[name]), EMPTY if is_in(value, state[name]) else only(value))
                if isinstance(shrunk, dict):
                    self.assertFalse(is_in(value, shrunk[name]))
                    self.assertEqual(less(state[name], shrunk[name]), only(value) if is_in(value, state[name]) else EMPTY)
            found = behind(state, ("name", "d", value))
            self.assertEqual(found, {**state, "d": value})
            self.assertEqual(behind(found, ("drop", "d")), state)


class ReadsAndWrites(unittest.TestCase):
    def test_each_kind(self):
        run = ("run", (("z", POINTS), ("far", POINTS)), (), (("let", "y", ("line",)), ("for", "x", ("line",), (("let", "q", ("name", "x")),)), ("let", "b", ("line",))))
        self.assertEqual([(reads(deed), writes(deed)) for deed in (("name", "far", ABOVE), ("drop", "far"), ("add", "far", ZERO), ("cut", "far", ZERO), LESS, run, ("run", (), (), ()), ("move", ()))],
                         [([], ["far"]), (["far"], ["far"]), (["far"], ["far"]), (["far"], ["far"]), (["far"], ["low"]), (["far", "z"], ["b", "y"]), ([], []), (None, None)])
        for deed in (("name", "far", ABOVE), ("drop", "far"), LESS):
            self.assertIs(type(reads(deed)), list)
            self.assertIsNot(reads(deed), reads(deed))
            self.assertIsNot(writes(deed), writes(deed))


class Differences(unittest.TestCase):
    def test_known_ones(self):
        other = {"far": join(ABOVE, only(ZERO)), "q": "b", "w": "b"}
        found = differences(STATE, other)
        self.assertEqual(found, {"far": ("sets", EMPTY, only(ZERO)), "p": ("values", TWO, None), "q": ("values", None, "b"), "w": ("values", "a", "b")})
        self.assertEqual(list(found), ["far", "p", "q", "w"])
        self.assertEqual(list(differences({"b": "x", "d": "x"}, {"a": "y", "c": "y", "d": "z"})), ["a", "b", "c", "d"])
        self.assertEqual([differences(STATE, STATE), differences({}, {})], [{}, {}])
        self.assertEqual(differences({"a": LINE}, {"a": ZERO}), {"a": ("values", LINE, ZERO)})
        self.assertEqual(differences({"a": LINE}, {}), {"a": ("values", LINE, None)})
        self.assertEqual(differences({"a": ZERO}, {"a": LINE}), {"a": ("values", ZERO, LINE)})
        self.assertEqual(differences({}, {"a": LINE}), {"a": ("values", None, LINE)})
        self.assertEqual(differences({"a": EMPTY}, {"a": LINE}), {"a": ("sets", EMPTY, LINE)})
        self.assertEqual(differences({"a": LINE}, {"a": only(ONE)}), {"a": ("sets", less(LINE, only(ONE)), EMPTY)})

    def test_too_many(self):
        rows = made((), [("row", word, ZERO) for word in GREAT[2][:201]])
        fewer = made((ZERO,), [("row", "aa", ZERO)])
        self.assertRaises(TooMany, differences, {"r": rows}, {"r": fewer})
        self.assertRaises(TooMany, differences, {"r": fewer}, {"r": rows})
        self.assertEqual(differences({"r": rows}, {"r": rows}), {})


class Texts(unittest.TestCase):
    def check(self, deed, text):
        self.assertEqual(deed_text(deed), text)
        self.assertTrue(is_same_thing(read_deed(text), deed))

    def test_each_kind(self):
        self.check(("name", "far", ABOVE), "name far {0|1}")
        self.check(("name", "name", ("row", "x", HALF)), "name name <x 1/2>")
        self.check(("name", "w", "a"), "name w a")
        self.check(("drop", "far"), "drop far")
        self.check(("add", "far", (-3, 7)), "add far -3/7")
        self.check(("cut", "far", ("set", (), ())), "cut far {|}")
        self.check(("move", ()), "move")
        self.check(("move", ((ZERO, TWO),)), "move 0 2")
        self.check(("move", (((-1, 2), ZERO), (ONE, (5, 3)))), "move -1/2 0 1 5/3")
        self.check(("run", (), (), ()), "run [] [] []")
        self.check(LESS, "run [[far (set (point))]] [] [(let low (less (line) (name far)))]")

    def test_programs(self):
        chance = seeded(262)
        for _ in range(60):
            program, _ = Maker(chance).program()
            deed = ("run", program.inputs(), program.functions(), program.block())
            self.assertEqual(read_deed(deed_text(deed)), deed)

    def test_what_is_no_line(self):
        for text in (None, 7, True, [], ["drop far"], ("drop", "far"), b"drop far", "", " ", "drop", "drop ", "drop  far", " drop far", "drop far ", "drop far x", "drop Far", "drop 0", "drop aaaaaaaaa", "Drop far", "dropfar",
                     "name", "name far", "name far ", "name  far a", "name far  a", "name far a ", "name far A", "name far {1 0|}", "name far {0|}", "name far <a", "name far 2/4", "name far 0 1", "name 0 0", "name far\ta", "name far a\n",
                     "add far", "add far <<<<<a>>>>>", "cut far {|1}", "cut far " + "1" * 31, "move ", "move 0", "move 0 1 2", "move 0 1 0 2", "move 0 1 2 1", "move 1 0 0 1", "move 0  1", "move 0 a", "move 0 2/4", "move a b", "move  0 1", "move 0 1 ",
                     "move {|} {|}", "run", "run ", "run [] []", "run [] [] [] ", "run  [] [] []", "run [] [] [(let a (lane))]", "run [] [] [(let a (name b))]", "run [] [] [(let a (point 2/4))]", "run [[a (word)] [a (word)]] [] []",
                     "run [] [] [(let a (all (line)))]", "undo", "show", "let a b", "edit 0 drop a"):
            self.assertEqual(told(read_deed, text), (BadLine, {}), text)

    def test_whether_a_state_lets_it_or_not(self):
        for text in ("drop nothing", "add nothing 0", "move 0 1", "run [[nothing (word)]] [] []", "name a <<<<a>>>>", "add a <<<<a>>>>", "name far " + "1" * 30):
            self.assertEqual(deed_text(read_deed(text)), text)

    def test_by_chance(self):
        chance = seeded(263)
        for _ in range(200):
            value = some_value(chance, 3)
            deed = (chance.choice(["name", "add", "cut"]), chance.choice(["a", "far", "name"]), value)
            text = deed_text(deed)
            self.assertEqual([text, read_deed(text)], [f"{deed[0]} {deed[1]} {value_text(value)}", deed])
            cut = text[:chance.randrange(len(text))]
            if told(read_deed, cut) != (BadLine, {}):
                self.assertEqual(deed_text(read_deed(cut)), cut)


class Moves(unittest.TestCase):
    def test_what_is_led_is_told_led(self):
        chance = seeded(264)
        for _ in range(60):
            state = {"a": some_set(chance, 1), "b": some_value(chance, 1)}
            value = some_value(chance, 1)
            move = tuple(((k, 2), (3 * k + 40, 7)) for k in range(-8, 9))
            move = tuple((make_point(*old), make_point(*new)) for old, new in move)
            for deed in (("add", "a", value), ("cut", "a", value), ("name", "c", value), ("drop", "b")):
                led = (*deed[:2], *[moved(part, move) for part in deed[2:]])
                found = told(behind, state, deed)
                if isinstance(found, dict):
                    self.assertEqual(behind(found, ("move", move)), behind(behind(state, ("move", move)), led))


if __name__ == "__main__":
    unittest.main()
