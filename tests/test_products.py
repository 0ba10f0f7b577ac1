import unittest

from gapwise.algebra import join, joined_points
from gapwise.errors import LineError, TooMany
from gapwise.making import EMPTY, LINE, is_in, made, orbits
from gapwise.placing import placed
from gapwise.points import merged_points
from gapwise.products import firsts, many_pairs, merges, pairs, seconds
from gapwise.values import support, value_text
from tests.helping import seeded, some_set, some_value
from tests.test_algebra import ABOVE, BELOW, OVER, RISING, word_set, words

ZERO, HALF, ONE, TWO, THREE = (0, 1), (1, 2), (1, 1), (2, 1), (3, 1)


def ways(k, l):
    """merges, straight from the words."""
    if k == 0 or l == 0:
        return 1
    return ways(k - 1, l) + ways(k, l - 1) + ways(k - 1, l - 1)


class Merges(unittest.TestCase):
    def test_small_ones(self):
        self.assertEqual([merges(0, 0), merges(1, 1), merges(2, 2), merges(1, 2), merges(2, 1)], [1, 3, 13, 5, 5])
        for k in range(6):
            for l in range(6):
                self.assertEqual(merges(k, l), ways(k, l))

    def test_to_twenty(self):
        self.assertEqual([merges(0, 20), merges(20, 0), merges(1, 20), merges(20, 1)], [1, 1, 41, 41])
        self.assertEqual(merges(2, 20), 841)
        self.assertEqual(merges(20, 20), 260543813797441)
        self.assertEqual(merges(10, 10), 8097453)
        for k in range(1, 21):
            for l in range(1, 21):
                self.assertEqual(merges(k, l), merges(k - 1, l) + merges(k, l - 1) + merges(k - 1, l - 1))
                self.assertEqual(merges(k, l), merges(l, k))


class ManyPairs(unittest.TestCase):
    def test_small_ones(self):
        self.assertEqual([many_pairs(LINE, LINE), many_pairs(LINE, ABOVE), many_pairs(ABOVE, LINE)], [3, 5, 5])
        self.assertEqual([many_pairs(LINE, EMPTY), many_pairs(EMPTY, LINE), many_pairs(EMPTY, EMPTY)], [0, 0, 0])
        self.assertEqual([many_pairs(ABOVE, BELOW), many_pairs(ABOVE, OVER), many_pairs(ABOVE, ABOVE)], [1, 5, 3])
        self.assertEqual(many_pairs(RISING, RISING), 13)
        self.assertEqual(many_pairs(word_set(7), word_set(9)), 63)
        self.assertEqual(many_pairs(word_set(7), RISING), 7)

    def test_however_many(self):
        whole = word_set(700)
        self.assertEqual(many_pairs(whole, whole), 490000)
        rows = made((), [("row", ("row", ZERO, ONE), ("row", TWO, THREE)), ("row", ZERO, ONE, TWO, THREE)])
        self.assertEqual(many_pairs(rows, rows), 4 * 321)
        self.assertEqual(many_pairs(rows, LINE), 2 * 9)

    def test_as_many_as_the_rows_have(self):
        chance = seeded(41)
        for _ in range(100):
            one, other = some_set(chance, 1), some_set(chance, 1)
            points = joined_points(one, other)
            told = {}
            for first in orbits(one, points):
                for second in orbits(other, merged_points(points, support(first))):
                    told[value_text(placed(("row", first, second), points))] = True
            count = many_pairs(one, other)
            self.assertEqual(count, len(told))
            if count <= 600:
                self.assertEqual(len(orbits(pairs(one, other), points)), count)
            else:
                with self.assertRaises(TooMany):
                    pairs(one, other)


class Pairs(unittest.TestCase):
    def test_small_ones(self):
        self.assertEqual(pairs(LINE, LINE), ("set", (), (("row", ZERO, ZERO), ("row", ZERO, ONE), ("row", ONE, ZERO))))
        self.assertEqual([pairs(LINE, EMPTY), pairs(EMPTY, LINE), pairs(EMPTY, EMPTY)], [EMPTY, EMPTY, EMPTY])
        self.assertEqual(pairs(made((), ["a"]), ABOVE), ("set", (ZERO,), (("row", "a", ONE),)))
        self.assertEqual(pairs(ABOVE, BELOW), ("set", (ZERO,), (("row", ONE, (-1, 1)),)))
        self.assertEqual(pairs(made((ZERO,), [ZERO]), made((ONE,), [ONE])), ("set", (ZERO, ONE), (("row", ZERO, ONE),)))
        self.assertEqual(pairs(made((), ["b", "a"]), made((), ["a"])), ("set", (), (("row", "a", "a"), ("row", "b", "a"))))

    def test_points_that_go(self):
        self.assertEqual(pairs(ABOVE, EMPTY), EMPTY)
        self.assertEqual(pairs(ABOVE, OVER)[1], (ZERO, ONE))

    def test_sets_as_parts(self):
        told = pairs(made((), [ABOVE]), LINE)
        self.assertEqual([is_in(("row", ABOVE, p), told) for p in (ZERO, ONE, (-1, 1))], [True] * 3)
        self.assertEqual(len(told[2]), 3)
        self.assertEqual(pairs(made((ZERO,), [ABOVE]), made((), [LINE])), ("set", (ZERO,), (("row", ABOVE, LINE),)))

    def test_members(self):
        chance = seeded(42)
        for _ in range(100):
            one, other = some_set(chance, 1), some_set(chance, 1)
            if many_pairs(one, other) > 600:
                continue
            told = pairs(one, other)
            firsts_at, seconds_at = orbits(one, ())[:3], orbits(other, ())[:3]
            for v in [some_value(chance, 1) for _ in range(3)] + firsts_at:
                for w in [some_value(chance, 1) for _ in range(3)] + seconds_at:
                    self.assertEqual(is_in(("row", v, w), told), is_in(v, one) and is_in(w, other))
            self.assertEqual(firsts(told), one if other != EMPTY else EMPTY)
            self.assertEqual(seconds(told), other if one != EMPTY else EMPTY)

    def test_too_many(self):
        self.assertEqual(len(pairs(word_set(20), word_set(30))[2]), 600)
        self.assertEqual(len(pairs(word_set(600), word_set(1))[2]), 600)
        with self.assertRaises(TooMany) as caught:
            pairs(word_set(601), word_set(1))
        self.assertIsInstance(caught.exception, LineError)
        with self.assertRaises(TooMany):
            pairs(word_set(1), word_set(601))
        self.assertEqual([pairs(word_set(601), EMPTY), pairs(EMPTY, word_set(601))], [EMPTY, EMPTY])
        self.assertEqual(len(pairs(made((), words(200)), LINE)[2]), 200)
        self.assertEqual(len(pairs(join(LINE, word_set(298)), join(LINE, word_set(1)))[2]), 600)
        with self.assertRaises(TooMany):
            pairs(join(LINE, word_set(299)), join(LINE, word_set(1)))

    def test_too_many_also_where_the_set_itself_would_be_small(self):
        rows = made((), [("row", ZERO, ONE, TWO, THREE)])
        self.assertEqual(len(pairs(rows, rows)[2]), 321)
        with self.assertRaises(TooMany):
            pairs(join(rows, made((), [("row", THREE, ZERO, ONE, TWO)])), rows)
        four = tuple((k, 1) for k in range(4))
        beside = made(four, [*four[:2]])
        self.assertEqual(many_pairs(rows, beside), 2 * len(orbits(rows, beside[1])))
        apart = made(four, [p for p in orbits(LINE, four) if p != ZERO])
        self.assertEqual(apart[1], (ZERO,))
        self.assertEqual(many_pairs(rows, apart), len(orbits(pairs(rows, apart), (ZERO,))))


class Parts(unittest.TestCase):
    def test_of_pairs(self):
        told = pairs(LINE, ABOVE)
        self.assertEqual([firsts(told), seconds(told)], [LINE, ABOVE])
        self.assertEqual([firsts(EMPTY), seconds(EMPTY)], [EMPTY, EMPTY])
        self.assertEqual([firsts(RISING), seconds(RISING)], [LINE, LINE])

    def test_of_other_sets_of_rows(self):
        many = made((ZERO,), [("row", ONE, "a"), ("row", (-1, 1), "b"), ("row", "w", ONE)])
        self.assertEqual(firsts(many), made((ZERO,), [ONE, (-1, 1), "w"]))
        self.assertEqual(seconds(many), made((ZERO,), ["a", "b", ONE]))
        self.assertEqual(firsts(made((ZERO,), [("row", HALF, ONE), ("row", (-1, 1), ZERO), ("row", ZERO, ZERO)])), LINE)
        self.assertEqual(seconds(made((ZERO,), [("row", "a", ("row", ZERO, ABOVE))])), made((ZERO,), [("row", ZERO, ABOVE)]))

    def test_points_that_go(self):
        many = made((ZERO, ONE), [("row", ZERO, TWO)])
        self.assertEqual([firsts(many)[1], seconds(many)], [(ZERO,), ("set", (ONE,), (TWO,))])


if __name__ == "__main__":
    unittest.main()
