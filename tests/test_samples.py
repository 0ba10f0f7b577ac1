import unittest

from gapwise.errors import BadSample, TooMany
from gapwise.making import EMPTY, LINE, is_in, made
from gapwise.samples import count, members_on
from gapwise.values import support, value_text
from tests.helping import ascending, seeded, some_points, some_set

ZERO, HALF, ONE, TWO, THREE = (0, 1), (1, 2), (1, 1), (2, 1), (3, 1)
PAIRS = made((), [("row", ZERO, ONE)])
ANY_PAIRS = made((), [("row", ZERO, ONE), ("row", ONE, ZERO), ("row", ZERO, ZERO)])


def whole(many):
    return tuple((k, 1) for k in range(many))


class MembersOn(unittest.TestCase):
    def test_points(self):
        self.assertEqual(members_on(LINE, ()), [])
        self.assertEqual(members_on(LINE, (ZERO, TWO)), [ZERO, TWO])
        self.assertEqual(members_on(LINE, ((-1, 1), HALF, (10, 1))), [(-1, 1), HALF, (10, 1)])
        above = made((ONE,), [TWO])
        self.assertEqual(members_on(above, (ONE,)), [])
        self.assertEqual(members_on(above, (ZERO, ONE, TWO, THREE)), [TWO, THREE])
        self.assertEqual(members_on(made((ONE,), [ONE, TWO]), (ONE, TWO)), [ONE, TWO])
        self.assertEqual([members_on(EMPTY, (ZERO,)), members_on(made((), ["b", "a"]), ())], [[], ["a", "b"]])

    def test_order_of_texts(self):
        found = members_on(LINE, ((-2, 1), (-1, 1), HALF, TWO, (10, 1)))
        self.assertEqual(found, [(-1, 1), (-2, 1), HALF, (10, 1), TWO])

    def test_rows_and_sets(self):
        self.assertEqual(members_on(PAIRS, (ZERO, HALF, ONE)), [("row", ZERO, HALF), ("row", ZERO, ONE), ("row", HALF, ONE)])
        sets = made((), [("set", (ZERO,), (ONE,))])
        self.assertEqual(members_on(sets, (ZERO, TWO)), [("set", (ZERO,), (ONE,)), ("set", (TWO,), (THREE,))])
        beside = made((ONE,), [("row", ZERO, TWO), ("row", ONE, ONE), ("row", TWO, THREE)])
        self.assertEqual(members_on(beside, (ZERO, ONE, TWO, THREE)), [("row", ZERO, TWO), ("row", ZERO, THREE), ("row", ONE, ONE), ("row", TWO, THREE)])

    def test_against_is_in(self):
        chance = seeded(101)
        for _ in range(150):
            points = some_points(chance, 2)
            values = [("row", chance.choice([ZERO, HALF, ONE, THREE, "a"]), chance.choice([HALF, ONE, TWO])) for _ in range(3)]
            many = made(points, [*values, chance.choice([ZERO, TWO, "b"])])
            sample = ascending([*many[1], *some_points(chance, 3)])
            letters = [*sample, "a", "b"]
            expected = [value for value in [*letters, *[("row", one, other) for one in letters for other in letters]] if is_in(value, many)]
            self.assertEqual(members_on(many, sample), sorted(expected, key=value_text))
            self.assertEqual(count(many, sample), len(expected))

    def test_any_sets(self):
        chance = seeded(102)
        for _ in range(150):
            many = some_set(chance, 2)
            sample = ascending([*many[1], *some_points(chance, 2)])
            found = members_on(many, sample)
            self.assertEqual(count(many, sample), len(found))
            texts = [value_text(value) for value in found]
            self.assertEqual(texts, sorted(set(texts)))
            for value in found:
                self.assertTrue(is_in(value, many))
                self.assertLessEqual(set(support(value)), set(sample))

    def test_600_and_601(self):
        self.assertEqual(len(members_on(LINE, whole(600))), 600)
        self.assertRaises(TooMany, members_on, LINE, whole(601))
        self.assertEqual(len(members_on(ANY_PAIRS, whole(24))), 576)
        self.assertRaises(TooMany, members_on, ANY_PAIRS, whole(25))
        self.assertEqual(count(LINE, whole(601)), 601)

    def test_told_lists_are_new(self):
        found = members_on(LINE, (ZERO,))
        found.append(ONE)
        self.assertEqual(members_on(LINE, (ZERO,)), [ZERO])


class Count(unittest.TestCase):
    def test_great_counts(self):
        self.assertEqual([count(PAIRS, whole(3)), count(PAIRS, whole(1)), count(PAIRS, ())], [3, 0, 0])
        fours = made((), [("row", *whole(4)), ("row", ZERO, ZERO)])
        self.assertEqual(count(fours, whole(1000)), 1000 * 999 * 998 * 997 // 24 + 1000)
        middle = made((ZERO, ONE), [("row", HALF, TWO), ("row", (1, 3), HALF), ONE])
        self.assertEqual(count(middle, thirds()), 2 * 5 + 1 + 1)

    def test_bad_samples(self):
        many = made((ONE,), [ONE, TWO])
        for sample in ([ONE], [], (), (ZERO, TWO), (ONE, ZERO), (ONE, ONE), ((2, 2),), ((1, True),), (ONE, (2, 0)), (ONE, "a"), "a", None, 3, True, {}, (ONE, [2, 1]), ("row", ONE), ((1,),), ONE, (1, 1)):
            self.assertRaises(BadSample, count, many, sample)
            self.assertRaises(BadSample, members_on, many, sample)
        self.assertRaises(BadSample, members_on, LINE, [ZERO])
        self.assertRaises(BadSample, count, LINE, (ONE, ZERO))
        self.assertRaises(BadSample, members_on, LINE, (*whole(700), ZERO))
        self.assertEqual(count(many, (ONE,)), 1)


def thirds():
    """0, two points up to 1, 1, and five points above."""
    return (ZERO, (1, 3), (2, 3), ONE, *[(k, 1) for k in range(2, 7)])


if __name__ == "__main__":
    unittest.main()
