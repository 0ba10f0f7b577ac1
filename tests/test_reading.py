import unittest

from gapwise.errors import BadText, BadValue, LineError
from gapwise.making import EMPTY, LINE, made
from gapwise.reading import check_value, read_value
from gapwise.trees import Program
from gapwise.values import depth, value_text
from tests.helping import copy_of, is_same_thing, seeded, some_value

ZERO, ONE, TWO = (0, 1), (1, 1), (2, 1)
ABOVE = ("set", (ZERO,), (ONE,))
LONG = int("1" * 30)


class Checked(unittest.TestCase):
    def check(self, value, path):
        told = copy_of(value)
        if path is None:
            self.assertIsNone(check_value(value))
        else:
            with self.assertRaises(BadValue) as caught:
                check_value(value)
            self.assertEqual(caught.exception.path, path, value)
            self.assertIsInstance(caught.exception.path, tuple)
            self.assertIsInstance(caught.exception, LineError)
        self.assertTrue(is_same_thing(value, told))

    def test_words(self):
        for word in ("a", "abcdefgh", "row", "set", "z"):
            self.check(word, None)
        for word in ("", "abcdefghi", "A", "aB", "a b", "a1", "1", "-", "<a>", "a\n", "a\t", "~", " a"):
            self.check(word, ())

    def test_points(self):
        for point in (ZERO, (-1, 2), (10 ** 39, 1), (10 ** 39, 10 ** 39 + 1)):
            self.check(point, None)
        for point in ((2, 4), (0, 2), (1, 0), (1, -1), (0, 0), (1,), (1, 1, 1), (), (True, 1), (1, True), (False, True),
                      (None, 1), ("a", 1), (1, "a"), ((1, 1), 1), [0, 1], ("point", 1)):
            self.check(point, ())

    def test_anything_else_is_looked_at_as_a_point(self):
        for value in (0, 1, -7, True, False, None, [], {}, ["row", "a"], {"row": "a"}, ["set", (), ()], [["a"]],
                      Program((), (), ()), ("word",), ("ro", "a"), (("row",), "a")):
            self.check(value, ())

    def test_rows(self):
        for row in (("row", "a"), ("row", "a", "b", "c", "d"), ("row", ZERO, ("row", ONE))):
            self.check(row, None)
        self.check(("row",), ())
        self.check(("row", "a", "b", "c", "d", "e"), ())
        self.check(("row", "A", "b", "c", "d", "e"), ())
        self.check(("row", "A"), (1,))
        self.check(("row", "a", "b", "c", (2, 2)), (4,))
        self.check(("row", "a", ("row", (2, 4))), (2, 1))
        self.check(("row", "a", ["row", "a"]), (2,))
        self.check(("row", ("row",), ("row", "A")), (1,))
        self.check(("row", ("row", ("row", "a", "B"), "C"), "D"), (1, 1, 2))
        self.check(("row", ZERO, True), (2,))

    def test_sets_of_a_wrong_form(self):
        for many in (("set",), ("set", ()), ("set", (), (), ()), ("set", [], ()), ("set", (), []), ("set", None, ()),
                     ("set", (ONE, ZERO), ()), ("set", (ONE, ONE), (TWO,)), ("set", ((2, 2),), (TWO,)),
                     ("set", ((True, 1),), (TWO,)), ("set", ([0, 1],), (ONE,)), ("set", ("a",), (ONE,)),
                     ("set", ZERO, (ONE,)), ("set", (), "a"), ("set", (), {}), ("set", ((0, True),), (ONE,)), ("set", (), ["A"]),
                     ("set", (), {"A": 1}), ("set", (), None), ("sets", (), ("A",)), ("rows", "A"), ("abc", (), ())):
            self.check(many, ())

    def test_no_path_leads_into_points(self):
        self.check(("row", ("set", (ONE, ZERO), ())), (1,))
        self.check(("row", "a", ("set", ((2, 4),), ("A",))), (2,))

    def test_told_members(self):
        self.check(("set", (), ("A",)), (2, 0))
        self.check(("set", (ZERO,), (ONE, ("row", "a", (2, 2)))), (2, 1, 2))
        self.check(("set", (), (("set", (), ("a", "B")),)), (2, 0, 2, 1))
        self.check(("set", (), ([0, 1],)), (2, 0))
        self.check(("set", (ZERO,), (ONE, True)), (2, 1))

    def test_the_form_comes_ahead_of_the_members_and_these_ahead_of_the_one_form(self):
        self.check(("set", (ONE, ZERO), ("A",)), ())
        self.check(("set", (), ("A",), ()), ())
        self.check(("set", (ZERO,), ("A",)), (2, 0))
        self.check(("set", (), ("b", "a", "A")), (2, 2))
        self.check(("row", ("set", (ZERO,), ("a",)), "A"), (1,))
        self.check(("row", "A", ("set", (ZERO,), ("a",))), (1,))

    def test_the_one_form(self):
        for many in (EMPTY, LINE, ABOVE, ("set", (), ("a", "b")), ("set", (), (ABOVE,))):
            self.check(many, None)
        self.check(("set", (), (ONE,)), ())
        self.check(("set", (ZERO,), (TWO,)), ())
        self.check(("set", (), ("b", "a")), ())
        self.check(("set", (), ("a", "a")), ())
        self.check(("set", (), (ZERO, ZERO)), ())
        self.check(("set", (ZERO,), ()), ())
        self.check(("set", (ZERO,), ("a",)), ())
        self.check(("set", (ZERO,), ((-1, 1), ZERO, ONE)), ())
        self.check(("set", (ZERO,), (ONE, (-1, 1))), ())
        self.check(("set", (), (("set", (ONE,), (TWO,)),)), ())
        self.check(("set", (ZERO, ONE), ((1, 2), ONE, TWO)), ())

    def test_the_one_form_of_sets_within(self):
        self.check(("row", "a", ("set", (), (ONE,))), (2,))
        self.check(("set", (), (("set", (ZERO,), ("a",)),)), (2, 0))
        self.check(("set", (), ("a", ("set", (), (("set", (), ("b", "a")),)))), (2, 1, 2, 0))

    def test_the_depth_at_the_very_end(self):
        four = ("row", ("row", ("row", ("row", "a"))))
        self.check(four, None)
        self.check(("row", four), ())
        self.check(("row", "b", ("row", ("row", ("row", ("row", "A"))))), (2, 1, 1, 1, 1))
        self.check(("row", four, "A"), (2,))
        sets = EMPTY
        for _ in range(3):
            sets = ("set", (), (sets,))
        self.check(sets, None)
        self.check(("set", (), (sets,)), ())
        self.check(("row", sets), ())
        self.check(("row", sets, ("set", (), ("b", "a"))), (2,))

    def test_the_one_form_however_deep(self):
        value = ("set", (), (ONE,))
        path = ()
        for _ in range(12):
            value, path = ("set", (), (value,)), (*path, 2, 0)
        self.check(value, path)
        value = ("set", (), (ZERO,))
        for _ in range(12):
            value = ("set", (), (value,))
        self.check(value, ())
        value = "A"
        for _ in range(28):
            value = ("row", value)
        self.check(value, (1,) * 28)

    def test_many_parts(self):
        row = ("row", *[("row", *[("row", *[("row", *[(k + j, 1) for k in range(4)])] * 4)] * 4) for j in range(4)])
        self.check(row, None)
        points = tuple((k, 1) for k in range(900))
        self.check(("set", points, points), ())
        self.check(made(points, points), None)
        self.check(("set", points, tuple(sorted(points, key=value_text))), None)
        self.check(tuple(range(3000)), ())

    def test_true_in_the_place_of_one(self):
        self.check(("set", (), (("row", ZERO, (True, 1)),)), (2, 0, 2))
        self.check(("set", (), ((False, 1),)), (2, 0))
        self.check(("row", (0, True)), (1,))

    def test_values_are_values(self):
        chance = seeded(21)
        for _ in range(200):
            self.check(some_value(chance, 3), None)


class Read(unittest.TestCase):
    def bad_text(self, text, place):
        with self.assertRaises(BadText) as caught:
            read_value(text)
        self.assertEqual(caught.exception.place, place, text)
        self.assertIsInstance(caught.exception, LineError)

    def bad_value(self, text, path):
        with self.assertRaises(BadValue) as caught:
            read_value(text)
        self.assertEqual(caught.exception.path, path, text)

    def test_each_value_s_text_is_read_back(self):
        chance = seeded(22)
        values = ["a", "abcdefgh", ZERO, (-1, 1), (-7, 3), (LONG, 1), (-LONG, LONG + 1), ("row", "a", "b", "c", "d"), EMPTY,
                  LINE, ABOVE, ("row", EMPTY), made((ZERO, TWO), [ZERO, ONE, ("row", "a", EMPTY)]), made((), [ABOVE, "a"])]
        values.extend(some_value(chance, 3) for _ in range(300))
        for value in values:
            if depth(value) <= 4:
                self.assertEqual(read_value(value_text(value)), value)
                self.assertTrue(is_same_thing(read_value(value_text(value)), value))

    def test_no_strings(self):
        for value in (None, 0, True, [], ["a"], (), ("row", "a"), ZERO, {}, {"a": 1}, Program((), (), ())):
            self.bad_text(value, 0)

    def test_the_end_of_a_text_that_is_cut_short(self):
        for text in ("", "<", "<a", "<a ", "<a b c d", "{", "{0", "{0 ", "{0|", "{|", "{|a", "{|a ", "-", "1/", "1/1", "<1",
                     "<{|}", "<1/1", "-1/", "{0 1", "<<a>"):
            self.bad_text(text, len(text))

    def test_what_stands_behind_the_end(self):
        for text, place in (("a ", 1), ("a>", 1), ("0 ", 1), ("<a> ", 3), ("<a>b", 3), ("{|}}", 3), ("a|", 1), ("1 2", 1), ("a\n", 1)):
            self.bad_text(text, place)

    def test_words(self):
        for text, place in (("A", 0), ("aA", 1), ("abcdefghi", 8), ("a1", 1), ("<abcdefghij>", 9), ("_", 0), ("a_", 1), ("a-", 1)):
            self.bad_text(text, place)

    def test_numbers(self):
        for text, place in (("01", 1), ("00", 1), ("-0", 1), ("--1", 1), ("- 1", 1), ("-a", 1), ("+1", 0), ("1.5", 1), ("1/0", 2),
                            ("1/01", 2), ("1/-2", 2), ("1/a", 2), ("1/1", 3), ("<1/1>", 4), ("1//2", 2), ("1/2/3", 3), ("/2", 0),
                            ("1" * 31, 30), ("-" + "1" * 31, 31), ("1/" + "2" * 31, 32), ("1/" + "1" * 31, 32), ("1/1 ", 3),
                            ("0" * 5, 1), ("12a", 2), ("-01", 1)):
            self.bad_text(text, place)
        self.assertEqual(read_value("1/12"), (1, 12))
        self.assertEqual(read_value("1" * 30), (LONG, 1))
        self.assertEqual(read_value("-" + "1" * 30), (-LONG, 1))
        self.assertEqual(read_value("1/" + "1" * 30), (1, LONG))

    def test_rows(self):
        for text, place in (("<>", 1), ("< a>", 1), ("<a  b>", 3), ("<a b c d e>", 8), ("<a,b>", 2), ("<a }", 3), ("<a}", 2), ("<a|b>", 2),
                            ("<a b c d >", 8), ("<ab<c>>", 3), ("<<a>b>", 4)):
            self.bad_text(text, place)
        self.assertEqual(read_value("<a <b 1> {|} 2>"), ("row", "a", ("row", "b", ONE), EMPTY, TWO))

    def test_sets(self):
        for text, place in (("{}", 1), ("{a|}", 1), ("{0 a|}", 3), ("{ 0|}", 1), ("{0 |}", 3), ("{0  1|}", 3), ("{0,1|}", 2), ("{| a}", 2),
                            ("{|a  b}", 4), ("{|a |}", 4), ("{|a|}", 3), ("{|a>", 3), ("{0>", 2), ("{<a>|}", 1), ("{1/1|}", 4), ("{|a }", 4)):
            self.bad_text(text, place)
        self.assertEqual(read_value("{0 1|1/2}"), ("set", (ZERO, ONE), ((1, 2),)))
        words = sorted(a + b for a in "abcdefghij" for b in "abcdefghij")
        self.assertEqual(read_value("{|" + " ".join(words) + "}"), ("set", (), tuple(words)))
        points = tuple((2 * k, 1) for k in range(12))
        many = made(points, points)
        self.assertEqual((many[1], len(many[2])), (points, 12))
        self.assertEqual(read_value(value_text(many)), many)

    def test_four_within_one_another(self):
        self.assertEqual(read_value("<<<<a>>>>"), ("row", ("row", ("row", ("row", "a")))))
        self.assertEqual(read_value("{|{|{|{|}}}}"), ("set", (), (("set", (), (("set", (), (EMPTY,)),)),)))
        for text, place in (("<<<<<a>>>>>", 4), ("{|{|{|{|{|}}}}}", 8), ("<<<<{|}>>>>", 4), ("<a <b <c <d <e>>>>>", 12), ("<<<<", 4)):
            self.bad_text(text, place)

    def test_of_the_form_but_no_value(self):
        for text, path in (("2/4", ()), ("0/2", ()), ("{1 0|}", ()), ("{0 1|}", ()), ("{0 0|1}", ()), ("{|1}", ()), ("{|b a}", ()),
                           ("{|a a}", ()), ("<a 2/4>", (2,)), ("{2/4|}", ()), ("{0|<a 2/2>}", (2, 0, 2)), ("<a {|1}>", (2,)),
                           ("-2/4", ()), ("{0|{|b a}}", (2, 0)), ("{0|-1 0 1}", ())):
            self.bad_value(text, path)

    def test_the_text_comes_ahead_of_the_value(self):
        self.bad_text("<2/4 A>", 5)
        self.bad_text("{1 0|", 5)
        self.bad_text("2/4 ", 3)


if __name__ == "__main__":
    unittest.main()
