import unittest

from gapwise.console import Console
from gapwise.deeds import deed_text
from gapwise.errors import LineError, NotThere
from gapwise.house import House
from gapwise.making import is_in
from gapwise.reading import read_value
from gapwise.samples import count
from gapwise.values import value_text
from tests.helping import HALVES, seeded, some_points
from tests.plain_house import RUNS, some_deed
from tests.relations import ONE, TWO, ZERO
from tests.test_house import picture


def answers(*lines):
    desk = Console()
    return [desk.say(line) for line in lines]


class Lines(unittest.TestCase):
    def test_deeds(self):
        self.assertEqual(answers("name far {0|1}", "add far 0", "cut far 2", "name w a", "drop w", "move 0 1 2 3", "run [[far (set (point))]] [] [(let low (less (line) (name far)))]", "show"),
                         ["1", "2", "3", "4", "5", "6", "7", "far {1 3|1 2 4}; low {1 3|0 3}"])
        self.assertEqual(answers("move", "run [] [] []", "log"), ["1", "2", "move; run [] [] []"])
        self.assertEqual(answers("name name <name drop>", "name show a", "show name", "show show"), ["1", "2", "<name drop>", "a"])

    def test_undo_redo(self):
        self.assertEqual(answers("undo", "name a b", "redo", "undo", "show", "redo", "show", "undo", "drop a", "redo"), ["no NothingDone", "1", "no NothingDone", "0", "", "1", "a b", "0", "no UnknownName", "1"])

    def test_branches(self):
        self.assertEqual(answers("name a b", "branch side", "name c d", "go side", "show", "name e f", "merge main", "show", "go main", "merge side", "log"),
                         ["1", "1", "2", "1", "a b", "2", "3", "a b; c d; e f", "2", "3", "name a b; name c d; name e f"])
        self.assertEqual(answers("branch main", "go side", "merge side", "merge main", "branch a", "branch b", "branch c", "branch d", "branch e", "branch f", "branch a"),
                         ["no BadName", "no UnknownName", "no UnknownName", "0", "0", "0", "0", "0", "0", "no TooMany", "no BadName"])
        self.assertEqual(answers("name w a", "branch side", "name w b", "go side", "name w c", "merge main", "show w"), ["1", "1", "2", "1", "2", "no Clash", "c"])

    def test_edits(self):
        self.assertEqual(answers("name a b", "name c d", "insert 1 name e f", "log", "edit 0 name a z", "remove 2", "log", "insert 2 drop a", "insert 4 drop a", "edit 3 drop a", "remove 3", "edit 0 drop a", "remove 0"),
                         ["1", "2", "3", "name a b; name e f; name c d", "3", "2", "name a z; name e f", "3", "no NoDeed", "no NoDeed", "no NoDeed", "no UnknownName", "no UnknownName"])

    def test_questions(self):
        self.assertEqual(answers("show", "log", "name far {0|1}", "name w a", "show", "show far", "show w", "add far 0", "undo", "log", "hangs far", "redo", "hangs far", "hangs w"),
                         ["", "", "1", "2", "far {0|1}; w a", "{0|1}", "a", "3", "2", "name far {0|1}; name w a", "0", "3", "0 2", "1"])
        self.assertEqual(answers("name far {0|1}", "in far 1/2", "in far 0", "in far <a {|}>", "count far 0", "count far 0 1 2", "count far -1 0 1/3", "name all {|0}", "count all", "count all 5", "in all a"), ["1", "yes", "no", "no", "0", "2", "1", "2", "0", "1", "no"])

    def test_names_without_values_and_sets(self):
        for line in ("show near", "hangs near", "in near 0", "count near", "count near 1 0"):
            self.assertEqual(answers("name w a", line), ["1", "no UnknownName"], line)
        for line in ("in w 0", "count w", "count w 1 0"):
            self.assertEqual(answers("name w a", line), ["1", "no NoSet"], line)
        for line in ("count far", "count far 1", "count far 1 0", "count far 0 0"):
            self.assertEqual(answers("name far {0|1}", line), ["1", "no BadSample"], line)

    def test_errors_by_their_classes(self):
        self.assertEqual(answers("name far {0|1}", "drop near", "add near 0", "name w a", "add w 0", "move 1 2", "run [[far (word)]] [] []", "run [[near (word)]] [] []", "add far <<<<a>>>>", "name deep <<<<a>>>>"),
                         ["1", "no UnknownName", "no UnknownName", "2", "no NoSet", "no BadMove", "no WrongKind", "no UnknownName", "no BadValue", "3"])
        self.assertEqual(answers(*[f"name {name} x" for name in "abcdefghi"])[-2:], ["8", "no TooMany"])
        self.assertEqual(answers(*["name a b"] * 61)[-2:], ["60", "no TooMany"])

    def test_what_is_no_line(self):
        for line in (None, 7, True, [], ["undo"], ("undo",), b"undo", {}, "", " ", "Undo", "undo ", " undo", "undo 1", "undo undo", "redo ", "redo 0", "undone", "show ", " show", "show  far", "show far ", "show far w", "show Far", "show 0", "log ", "log far", "branch",
                     "branch ", "branch A", "branch a b", "branch  a", "branch 0", "branch aaaaaaaaa", "go", "go ", "go A", "go  side", "merge", "merge ", "merge 0", "merge side ", "remove", "remove ", "remove -1", "remove 00", "remove 01", "remove a", "remove 1 ",
                     "remove 1/2", "remove  1", "remove " + "1" * 31, "edit", "edit 0", "edit 0 ", "edit drop a", "edit 0 undo", "edit 0 name a", "edit 00 drop a", "edit 0  drop a", "edit x drop a", "insert", "insert 0", "insert 0 show", "insert 01 drop a", "insert  0 drop a",
                     "hangs", "hangs ", "hangs Far", "hangs far w", "in", "in far", "in far ", "in  far 0", "in far  0", "in far 0 ", "in far 2/4", "in Far 0", "in far {", "count", "count ", "count Far", "count far ", "count far  0", "count far 0 ", "count far a", "count far 2/4",
                     "count far {|}", "count far 0,1", "name far", "name  far a", "drop", "add far", "cut far ", "move 0", "run", "run []", "let a b", "do drop a", "show\tfar", "undo\n", "in far 0\n", "state", "here", "trace", "remove 1\n", "remove 1_0", "remove +1"):
            desk = Console()
            desk.say("name far {0|1}")
            desk.say("name w a")
            before = picture(desk.house())
            self.assertEqual(desk.say(line), "no BadLine", line)
            self.assertEqual(picture(desk.house()), before)

    def test_numbers(self):
        self.assertEqual(answers("name a b", "remove " + "1" * 30, "remove 10", "edit 1 drop a", "insert 2 drop a", "insert 1 drop a", "remove 1", "remove 0"), ["1", "no NoDeed", "no NoDeed", "no NoDeed", "no NoDeed", "2", "1", "0"])


class Desk(unittest.TestCase):
    def test_house(self):
        desk, other = Console(), Console()
        self.assertIsInstance(desk.house(), House)
        self.assertIs(desk.house(), desk.house())
        self.assertIsNot(desk.house(), other.house())
        desk.say("name a b")
        self.assertEqual([desk.house().state(), other.house().state()], [{"a": "b"}, {}])
        desk.house().do(("name", "c", ZERO))
        self.assertEqual(desk.say("show"), "a b; c 0")

    def test_by_chance(self):
        chance, seen = seeded(281), {}
        for _ in range(40):
            desk, house = Console(), House()
            for _ in range(25):
                line, call = self.some_line(chance, house)
                before = house.twin()
                try:
                    expected = call()
                except (LineError, NotThere) as error:
                    expected = "no " + type(error).__name__
                    self.assertEqual(house, before)
                self.assertEqual(desk.say(line), expected, line)
                self.assertEqual(desk.house(), house)
                word = (line.split(" ")[0], expected[:3] == "no ")
                seen[word] = True
        for word in ("name", "add", "run", "undo", "branch", "go", "merge", "edit", "insert", "remove", "show", "hangs", "in", "count"):
            self.assertIn((word, False), seen)

    def some_line(self, chance, house):
        def place(call, *parts):
            def done():
                call(*parts)
                return str(house.place(house.here()))
            return done
        deed = some_deed(chance)
        while not isinstance(deed, tuple) or deed not in RUNS and (deed[0] == "run" or any(not isinstance(part, (str, tuple)) for part in deed)) or deed[1:] in ((), ("A", "a")) or deed[-1] == (2, 2):
            deed = some_deed(chance)
        name, number, branch = chance.choice("abcdp"), chance.choice([0, 1, 2, 4, 9]), chance.choice(["main", "x", "y"])
        value, points = chance.choice(HALVES), some_points(chance, chance.choice([0, 2, 9]))
        draw = chance.choice(["deed"] * 8 + ["undo", "redo", "branch", "go", "merge", "edit", "insert", "remove", "show", "all", "log", "hangs", "in", "in", "count", "count"])
        text = deed_text(deed)

        def state_of(name):
            return house.state()[name] if name in house.state() else house.do(("drop", "qq"))

        def set_of(name):
            many = state_of(name)
            return many if isinstance(many, tuple) and many[0] == "set" else house.do(("add", name, ZERO))
        return {
            "deed": (text, place(house.do, deed)), "undo": ("undo", place(house.undo)), "redo": ("redo", place(house.redo)), "branch": (f"branch {branch}", place(house.branch, branch)),
            "go": (f"go {branch}", place(house.go, branch)), "merge": (f"merge {branch}", place(house.merge, branch)), "edit": (f"edit {number} {text}", place(house.edit, number, deed)),
            "insert": (f"insert {number} {text}", place(house.insert, number, deed)), "remove": (f"remove {number}", place(house.remove, number)), "show": (f"show {name}", lambda: value_text(state_of(name))),
            "all": ("show", lambda: "; ".join(f"{one} {value_text(many)}" for one, many in house.state().items())),
            "log": ("log", lambda: "; ".join(deed_text(one) for one in house.script(house.here())[:house.place(house.here())])),
            "hangs": (f"hangs {name}", lambda: " ".join(str(one) for one in house.hangs_on(name))), "in": (f"in {name} {value_text(value)}", lambda: "yes" if is_in(value, set_of(name)) else "no"),
            "count": (" ".join(["count", name, *[value_text(point) for point in points]]), lambda: str(count(set_of(name), points)))}[draw]

    def test_values_of_answers(self):
        desk = Console()
        desk.say("name far {0|1}")
        self.assertEqual(read_value(desk.say("show far")), ("set", (ZERO,), (ONE,)))
        self.assertEqual([desk.say(f"count far 0 {value_text(TWO)}"), desk.say("count far 2 0")], ["1", "no BadSample"])


if __name__ == "__main__":
    unittest.main()
