import unittest

from gapwise.errors import BadMove, BadProgram, BadText, LineError, MixedKinds, TooMany, TwiceTold, UnknownName
from gapwise.making import made
from gapwise.placing import moved
from gapwise.programtexts import moved_program, program_text, read_program, renamed_program
from gapwise.running import run
from gapwise.trees import Program
from gapwise.values import support
from tests.grammar import good_length
from tests.helping import ascending, is_same_thing, seeded
from tests.plainly import Maker, points_in
from tests.test_running import HALF, LINE_E, ONE, PAIR, POINT, POINTS, THREE, TRUE, TWO, WORD, X, Y, ZERO, empty, let, loop, point, when

SETS = ("set", POINTS)
S = ("name", "s")
EACH = ("each", X, "x", LINE_E, None)


def block_of(*block):
    return Program((), (), block)


def text_of(*block):
    return program_text(block_of(*block))


class Moved(unittest.TestCase):
    MOVE = ((ZERO, ONE), (HALF, TWO), (TWO, THREE))

    def test_points_anywhere(self):
        program = Program((("p", POINT),), (("f", (("x", POINT),), ("row", (X, point(1, 2)))),), (
            let("a", ("set", POINT, (point(0), point(2)))), when(("before", point(0), ("name", "p")), let("b", point(2))),
            loop("x", over=("each", ("name", "y"), "y", ("name", "a"), ("same", ("name", "y"), point(1, 2))))))
        led = moved_program(program, self.MOVE)
        self.assertEqual(led.inputs(), program.inputs())
        self.assertEqual(led.functions(), (("f", (("x", POINT),), ("row", (X, point(2)))),))
        self.assertEqual(led.block(), (
            let("a", ("set", POINT, (point(1), point(3)))), when(("before", point(1), ("name", "p")), let("b", point(3))),
            loop("x", over=("each", ("name", "y"), "y", ("name", "a"), ("same", ("name", "y"), point(2))))))
        self.assertEqual(points_in(program.block()), [ZERO, TWO, ZERO, TWO, HALF])

    def test_bad_moves(self):
        program = block_of(let("a", point(1)))
        for move in ((), ((ZERO, ONE),), ((ZERO, ZERO), (TWO, TWO))):
            self.assertRaises(BadMove, moved_program, program, move)
        self.assertEqual(moved_program(program, ((ONE, (-7, 2)),)), block_of(let("a", ("point", (-7, 2)))))
        self.assertEqual(moved_program(block_of(), ()), block_of())
        self.assertEqual(moved_program(block_of(let("point", ("word", "point"))), ()), block_of(let("point", ("word", "point"))))

    def test_a_moved_program_tells_what_was_told_moved(self):
        chance, told = seeded(91), 0
        for _ in range(500):
            program, values = Maker(chance).program()
            olds = ascending(points_in(program.block()) + points_in(program.functions()) + [at for value in values for at in support(value)])
            move, last = [], (-9, 1)
            for old in olds:
                last = (last[0] + chance.choice([1, 2, 5]), 1)
                move.append((old, last))
            led = moved_program(program, tuple(move))
            try:
                before, behind = run(program, values, runs=300), run(led, [moved(value, tuple(move)) for value in values], runs=300)
            except TooMany:
                continue
            told += 1
            self.assertEqual({name: moved(before[name], tuple(move)) for name in before}, behind)
        self.assertGreater(told, 300)


class Renamed(unittest.TestCase):
    def test_all_kinds_of_names(self):
        program = Program((("p", POINT), ("s", POINTS)), (("f", (("x", POINT),), ("row", (X, ("word", "x")))), ("x", (("p", POINT),), ("call", "f", (("name", "p"),)))), (
            let("a", ("each", ("call", "f", (X,)), "x", S, ("some", "y", S, ("before", X, Y)))), ("add", ("call", "x", (("name", "p"),)), "a"),
            ("for", "x", S, (("if", ("every", "y", S, TRUE), (let("z", X),), ()),)), ("grow", "s", LINE_E, ())))
        names = {"x": "xx", "y": "x", "p": "s", "s": "p", "a": "f", "z": "z", "f": "no", "q": "x"}
        seen = renamed_program(program, names)
        xx, p = ("name", "xx"), ("name", "p")
        self.assertEqual(seen.inputs(), (("s", POINT), ("p", POINTS)))
        self.assertEqual(seen.functions(), (("f", (("xx", POINT),), ("row", (xx, ("word", "x")))), ("x", (("s", POINT),), ("call", "f", (("name", "s"),)))))
        self.assertEqual(seen.block(), (
            let("f", ("each", ("call", "f", (xx,)), "xx", p, ("some", "x", p, ("before", xx, X)))), ("add", ("call", "x", (("name", "s"),)), "f"),
            ("for", "xx", p, (("if", ("every", "x", p, TRUE), (let("z", xx),), ()),)), ("grow", "p", LINE_E, ())))
        self.assertEqual(names, {"x": "xx", "y": "x", "p": "s", "s": "p", "a": "f", "z": "z", "f": "no", "q": "x"})
        self.assertEqual(renamed_program(program, {}), program)

    def test_names_exchanged_and_back(self):
        chance = seeded(92)
        for _ in range(200):
            program, values = Maker(chance).program()
            names = {name: name + "zz" for name in "abcdefghij"}
            there = renamed_program(program, names)
            self.assertEqual(renamed_program(there, {name + "zz": name for name in "abcdefghij"}), program)
            try:
                self.assertEqual(list(run(there, values, runs=300).values()), list(run(program, values, runs=300).values()))
            except TooMany:
                pass

    def test_twice_told(self):
        program = Program((("p", POINT), ("q", POINT)), (("f", (("x", POINT),), X),), (loop("x", loop("y")), let("z", ("name", "p"))))
        for names, name in (({"p": "q"}, "q"), ({"x": "y"}, "y"), ({"y": "x"}, "x"), ({"z": "p"}, "p"), ({"x": "p"}, "p"), ({"p": "k", "q": "k"}, "k")):
            with self.assertRaises(TwiceTold) as caught:
                renamed_program(program, names)
            self.assertEqual(caught.exception.name, name)
        self.assertEqual(renamed_program(program, {"p": "q", "q": "p"}).inputs(), (("q", POINT), ("p", POINT)))
        self.assertEqual(renamed_program(program, {"z": "x"}).block()[1], let("x", ("name", "p")))
        self.assertEqual(renamed_program(program, {"z": "f", "x": "f"}).functions(), (("f", (("f", POINT),), ("name", "f")),))

    def test_the_first_one_is_named(self):
        program = Program((), (("f", (("x", POINT), ("y", POINT)), X),), (loop("x", loop("y")),))
        with self.assertRaises(TwiceTold) as caught:
            renamed_program(program, {"x": "u", "y": "u"})
        self.assertEqual(caught.exception.name, "u")


PARTS = [
    (let("a", ("word", "b")), "(let a (word b))"),
    (let("a", point(-1, 2)), "(let a (point -1/2))"),
    (let("a", point(0)), "(let a (point 0))"),
    (let("a", LINE_E), "(let a (line))"),
    (let("a", ("row", (point(1), point(2)))), "(let a (row [(point 1) (point 2)]))"),
    (let("a", ("item", 0, ("row", (point(1),)))), "(let a (item 0 (row [(point 1)])))"),
    (let("a", ("set", POINT, ())), "(let a (set (point) []))"),
    (let("a", ("set", ("row", WORD, ("set", POINT)), ())), "(let a (set (row (word) (set (point))) []))"),
    (let("a", ("set", WORD, (("word", "x"), ("word", "let")))), "(let a (set (word) [(word x) (word let)]))"),
    (let("a", ("join", LINE_E, LINE_E)), "(let a (join (line) (line)))"),
    (let("a", ("both", LINE_E, LINE_E)), "(let a (both (line) (line)))"),
    (let("a", ("less", LINE_E, LINE_E)), "(let a (less (line) (line)))"),
    (let("a", ("pairs", LINE_E, LINE_E)), "(let a (pairs (line) (line)))"),
    (let("a", ("all", ("set", POINTS, ()))), "(let a (all (set (set (point)) [])))"),
    (let("a", EACH), "(let a (each (name x) x (line) -))"),
    (let("a", ("each", X, "x", LINE_E, ("before", X, X))), "(let a (each (name x) x (line) (before (name x) (name x))))"),
    (when(("same", LINE_E, LINE_E)), "(if (same (line) (line)) [] [])"),
    (when(("in", point(1), LINE_E)), "(if (in (point 1) (line)) [] [])"),
    (when(("within", LINE_E, LINE_E)), "(if (within (line) (line)) [] [])"),
    (when(("not", ("in", point(1), LINE_E))), "(if (not (in (point 1) (line))) [] [])"),
    (when(("and", ("in", point(1), LINE_E), ("or", ("in", point(1), LINE_E), ("in", point(1), LINE_E)))),
     "(if (and (in (point 1) (line)) (or (in (point 1) (line)) (in (point 1) (line)))) [] [])"),
    (when(("some", "x", LINE_E, ("before", X, X))), "(if (some x (line) (before (name x) (name x))) [] [])"),
    (when(("every", "x", LINE_E, ("before", X, X))), "(if (every x (line) (before (name x) (name x))) [] [])"),
    (("for", "x", LINE_E, (let("y", X), let("z", X))), "(for x (line) [(let y (name x)) (let z (name x))])"),
    (("for", "x", ("set", POINTS, ()), (("add", point(1), "x"),)), "(for x (set (set (point)) []) [(add (point 1) x)])"),
    (("for", "x", ("set", POINTS, ()), (("grow", "x", LINE_E, ()),)), "(for x (set (set (point)) []) [(grow x (line) [])])"),
]


class Texts(unittest.TestCase):
    def test_each_kind_of_part(self):
        for part, text in PARTS:
            self.assertEqual(text_of(part), "[] [] [" + text + "]")
            self.assertEqual(read_program("[] [] [" + text + "]").block(), (part,))
        self.assertEqual(text_of(), "[] [] []")
        self.assertEqual(text_of(*[let("a" + chr(97 + k), PARTS[k][0][2]) for k in range(2)]), "[] [] [(let aa (word b)) (let ab (point -1/2))]")

    def test_inputs_and_functions(self):
        program = Program((("p", POINT), ("let", ("set", ("row", POINT, WORD)))), (("f", (), LINE_E), ("g", (("x", POINT), ("y", WORD)), ("call", "f", ()))),
                          (let("a", ("call", "g", (("name", "p"), ("word", "w")))),))
        text = "[[p (point)] [let (set (row (point) (word)))]] [[f [] (line)] [g [[x (point)] [y (word)]] (call f [])]] [(let a (call g [(name p) (word w)]))]"
        self.assertEqual(program_text(program), text)
        self.assertEqual(read_program(text), program)
        self.assertTrue(is_same_thing(read_program(text).functions(), program.functions()))

    def test_programs_made_by_chance(self):
        chance = seeded(93)
        for _ in range(300):
            program, _ = Maker(chance).program()
            self.assertEqual(read_program(program_text(program)), program)


class BadTexts(unittest.TestCase):
    def place(self, text):
        with self.assertRaises(BadText) as caught:
            read_program(text)
        return caught.exception.place

    def test_no_strings(self):
        for value in (None, 3, True, ["[] [] []"], ("[]",), {}, ("set", (), ())):
            self.assertEqual(self.place(value), 0)

    def test_texts_cut_short(self):
        program = Program((("p", POINT), ("s", ("set", ("row", POINT, WORD)))), (("f", (("x", POINT),), ("row", (X, ("point", (-13, 4))))),), ())
        text = program_text(program)
        texts = [text] + ["[] [] [" + part + "]" for _, part in PARTS]
        for text in texts:
            for at in range(len(text)):
                self.assertEqual(self.place(text[:at]), at)
            for more in " ][)(a0-":
                self.assertEqual(self.place(text + more), len(text))

    def test_a_bad_character_anywhere(self):
        for _, part in PARTS:
            text = "[] [] [" + part + "]"
            for at in range(len(text)):
                for bad in "A#{\n":
                    self.assertEqual(self.place(text[:at] + bad + text[at:]), at)

    def test_places(self):
        for text, at in (
                ("", 0), ("[", 1), ("[]", 2), ("[][]", 2), ("[]  []", 3), ("[] [] [ ]", 7), ("([] [] [])", 0), ("[ [", 1), ("[[", 2), ("[[(", 2), ("[[a]", 3), ("[[a ]", 4), ("[[a b]", 4),
                ("[[aaaaaaaaa", 10), ("[[a (word)(", 10), ("[[a (word) ]", 10), ("[[a (wordy", 9), ("[[a (work", 8), ("[[a (line", 5), ("[[a (row)", 8), ("[[a (row ))", 9), ("[[a (row (word) (word) (word) (word) ", 36),
                ("[[a (set (word) ", 15), ("[[a (point 1)", 10), ("[] [[f (line)", 7), ("[] [[f [] ]", 10), ("[] [[f [] [", 10), ("[] [[f [] (for", 11),
                ("[] [] [(let a (lane))]", 16), ("[] [] [(lot", 9), ("[] [] [(in", 9), ("[] [] [(if (let", 12), ("[] [] [(if (in (line", 20), ("[] [] [(if -", 11), ("[] [] [(let a -", 14), ("[] [] [(add (line) r) (add (line)]", 33),
                ("[] [] [(let a (item 4", 20), ("[] [] [(let a (item 03", 21), ("[] [] [(let a (item 3)", 21), ("[] [] [(let a (item -", 20), ("[] [] [(let a (row []", 20), ("[] [] [(let a (row [(line) (line) (line) (line) ", 47),
                ("[] [] [(let a (call f [(line),", 29), ("[] [] [(let a (each (line) x (line) +", 36), ("[] [] [(let a (each (line) x (line) --", 37), ("[] [] [(let a (each (line) x (line) )", 36),
                ("[] [] [(let A", 12), ("[] [] [(let  a", 12), ("[] [] [(let abcdefghi", 20), ("[] [] [(let a(", 13), ("[] [] [(for x (line))", 20), ("[] [] [(if (same (line) (line)) [])", 34), ("[] [] [(grow x (line) [] ", 24)):
            self.assertEqual(self.place(text), at, text)

    def test_points(self):
        ahead = "[] [] [(let a (point "
        start = len(ahead)
        long = "9" * 30
        for point_text, at in (("01", 1), ("-0", 1), ("--1", 1), ("1/0", 2), ("1/1)", 3), ("1/01", 2), ("+1", 0), (" 1", 0), ("1/-2", 2), ("1 /2", 1), ("1.5", 1), (long + "9", 30), ("-" + long + "9", 31), ("1/" + long + "9", 32), (")", 0), ("a", 0)):
            self.assertEqual(self.place(ahead + point_text), start + at, point_text)
        for point_text, told in ((long, (int(long), 1)), ("-" + long, (-int(long), 1)), ("1/" + long, (1, int(long))), ("-7/10", (-7, 10)), ("0", ZERO)):
            self.assertEqual(read_program(ahead + point_text + "))]").block(), (let("a", ("point", told)),))

    def test_forty_brackets(self):
        inner = "(in (line) (line))"
        # A block, an if and as many nots stand around the in, and in it one bracket more opens.
        for nots in (36, 37, 38, 39):
            text = "[] [] [(if " + "(not " * nots + inner + ")" * nots + " [] [])]"
            ahead = len("[] [] [(if ")
            if nots == 36:
                with self.assertRaises(MixedKinds):
                    read_program(text)
            else:
                place = ahead + 5 * nots + 4 if nots == 37 else ahead + 5 * nots if nots == 38 else ahead + 5 * 38
                self.assertEqual(self.place(text), place)
        self.assertEqual(self.place("[[a " + "(set " * 50), 4 + 5 * 38)
        self.assertEqual(self.place("[[a " + "(set " * 38), 4 + 5 * 38)
        self.assertEqual(self.place("[[a " + "(set " * 38 + "x"), 4 + 5 * 38)
        self.assertEqual(self.place("[[a " + "(set " * 20 + "x" + "(set " * 50), 4 + 5 * 20)
        with self.assertRaises(BadProgram):
            read_program("[[a " + "(set " * 37 + "(word)" + ")" * 37 + "]] [] []")

    def test_against_rules(self):
        chance, right = seeded(95), 0
        texts = ["[] [] [" + part + "]" for _, part in PARTS]
        texts += [program_text(Maker(chance).program()[0]) for _ in range(12)]
        texts.append("[[p (point)] [s (set (row (word) (point)))]] [[f [[x (point)]] (row [(name x) (point -10/21)])] [g [] (call f [(point 0)])]] []")
        for _ in range(1500):
            text = chance.choice(texts)
            at, far = chance.randrange(len(text)), chance.choice([0, 0, 1, 1, 2, 5, 1000])
            bent = text[:at] + "".join(chance.choice("()[] -/01239abclpinoset") for _ in range(chance.choice([0, 1, 1, 2]))) + text[at + far:]
            place, whole = good_length(bent)
            if whole:
                right += 1
                try:
                    read_program(bent)
                except BadText as error:
                    self.fail((bent, error.place))
                except (LineError, LookupError):
                    pass
            else:
                self.assertEqual(self.place(bent), place, bent)
        self.assertGreater(right, 50)

    def test_then_what_program_raises(self):
        def error(text):
            with self.assertRaises((LineError, LookupError)) as caught:
                read_program(text)
            return caught.exception
        self.assertEqual(error("[] [] [(let a (point 2/4))]").path, (2, 0, 2))
        self.assertEqual(error("[] [] [(let a (point 0/3))]").path, (2, 0, 2))
        self.assertEqual(error("[[a (set (set (set (set (set (word))))))]] [] []").path, (0, 0, 1))
        self.assertIsInstance(error("[[a (set (set (set (set (set (word))))))]] [] []"), BadProgram)
        twice = error("[[a (word)] [a (word)]] [] []")
        self.assertIsInstance(twice, TwiceTold)
        self.assertEqual(twice.name, "a")
        unknown = error("[] [] [(let a (name b))]")
        self.assertIsInstance(unknown, UnknownName)
        self.assertEqual(unknown.name, "b")
        mixed = error("[] [] [(let a (join (line) (word b)))]")
        self.assertIsInstance(mixed, MixedKinds)
        self.assertEqual(mixed.path, (2, 0, 2))

    def test_the_place_hangs_on_what_stands_up_to_it_alone(self):
        chance = seeded(94)
        whole = ["[] [] [" + part + "]" for _, part in PARTS]
        for _ in range(2000):
            text = chance.choice(whole)
            at = chance.randrange(len(text))
            bent = text[:at] + chance.choice("()[] -/0123abclpx") + text[at + chance.choice([0, 1]):]
            try:
                read_program(bent)
            except BadText as error:
                place = error.place
                self.assertGreaterEqual(place, at)
                if place < len(bent):
                    try:
                        read_program(bent[:place])
                    except BadText as shorter:
                        self.assertEqual(shorter.place, place)
                    self.assertEqual(self.place(bent[:place + 1]), place)
                    self.assertEqual(self.place(bent[:place + 1] + "(line)"), place)
            except (LineError, LookupError):
                pass


if __name__ == "__main__":
    unittest.main()
