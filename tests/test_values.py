import unittest

from gapwise.making import EMPTY, LINE, made
from gapwise.values import depth, support, value_text

ZERO, ONE, TWO = (0, 1), (1, 1), (2, 1)
ABOVE = ("set", (ZERO,), (ONE,))
NESTED = made((), [("set", (ZERO, ONE), ((1, 2), TWO))])
SETS = made(((1, 3),), [ABOVE, "w", ("row", "a", ZERO)])


class Support(unittest.TestCase):
    def test_words_and_points(self):
        self.assertEqual([support("a"), support("abcdefgh"), support((-7, 2))], [(), (), ((-7, 2),)])

    def test_rows(self):
        self.assertEqual(support(("row", "a", "b")), ())
        self.assertEqual(support(("row", TWO, ZERO, TWO, ONE)), (ZERO, ONE, TWO))
        self.assertEqual(support(("row", (1, 2), ("row", (1, 3), (1, 2)))), ((1, 3), (1, 2)))
        self.assertEqual(support(("row", ("row", ("row", (5, 1))), "a", (-5, 1))), ((-5, 1), (5, 1)))

    def test_sets_hang_on_their_points_alone(self):
        self.assertEqual([support(EMPTY), support(LINE), support(ABOVE)], [(), (), (ZERO,)])
        self.assertEqual([support(NESTED), support(SETS)], [(), ((1, 3),)])
        self.assertEqual(support(("row", ABOVE, ("set", (ONE,), (TWO,)), (1, 2))), (ZERO, (1, 2), ONE))


class Depth(unittest.TestCase):
    def test_words_and_points(self):
        self.assertEqual([depth("a"), depth(ZERO)], [0, 0])

    def test_rows(self):
        self.assertEqual(depth(("row", "a", ZERO)), 1)
        self.assertEqual(depth(("row", "a", ("row", "b"), ZERO)), 2)
        self.assertEqual(depth(("row", ("row", ("row", ("row", "b"))), ("row", "a"))), 4)

    def test_sets(self):
        self.assertEqual([depth(EMPTY), depth(LINE), depth(ABOVE), depth(NESTED), depth(SETS)], [1, 1, 1, 2, 2])
        self.assertEqual(depth(("set", (), (EMPTY,))), 2)
        self.assertEqual(depth(("set", (), ("a", ("row", "b", ("row", "c"))))), 3)
        self.assertEqual(depth(("row", EMPTY)), 2)


class Text(unittest.TestCase):
    def test_words_and_points(self):
        self.assertEqual([value_text("abc"), value_text(ZERO), value_text((-3, 1))], ["abc", "0", "-3"])
        self.assertEqual([value_text((1, 2)), value_text((-7, 3))], ["1/2", "-7/3"])
        self.assertEqual(value_text((10 ** 29, 10 ** 29 + 1)), f"{10 ** 29}/{10 ** 29 + 1}")
        self.assertEqual(value_text((-(10 ** 60), 1)), f"-{10 ** 60}")

    def test_rows(self):
        self.assertEqual(value_text(("row", "a")), "<a>")
        self.assertEqual(value_text(("row", "a", (-1, 2), ("row", "b", "c"), ONE)), "<a -1/2 <b c> 1>")

    def test_sets(self):
        self.assertEqual([value_text(EMPTY), value_text(LINE), value_text(ABOVE)], ["{|}", "{|0}", "{0|1}"])
        self.assertEqual(value_text(("set", (ZERO, (1, 2)), ((1, 4), TWO))), "{0 1/2|1/4 2}")
        self.assertEqual(value_text(("set", (ZERO,), ())), "{0|}")
        self.assertEqual(value_text(NESTED), "{|{0 1|1/2 2}}")
        self.assertEqual(value_text(SETS), "{1/3|<a -2/3> w {-2/3|1/3}}")


if __name__ == "__main__":
    unittest.main()
