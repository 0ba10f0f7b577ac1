import unittest
from math import comb

from gapwise.errors import LineError, OtherGaps
from gapwise.making import EMPTY, LINE, made, orbits
from gapwise.placing import shape
from gapwise.points import merged_points, spread
from gapwise.samples import count
from gapwise.sizes import Size, size_of
from tests.helping import ascending, copy_of, is_same_thing, seeded, some_points, some_set

ZERO, HALF, ONE, TWO, THREE = (0, 1), (1, 2), (1, 1), (2, 1), (3, 1)
PAIRS = made((), [("row", ZERO, ONE)])
BIG = 10 ** 30


def some_size(chance, gaps):
    terms = []
    for _ in range(chance.choice([0, 1, 2, 3, 5])):
        terms.append((tuple(chance.choice([0, 0, 1, 1, 2, 3]) for _ in range(gaps)), chance.choice([-5, -1, 0, 1, 1, 2, 7])))
    return Size(gaps, terms)


def some_numbers(chance, gaps):
    return [chance.choice([0, 1, 2, 3, 5, 9, 40, BIG, BIG - 7]) for _ in range(gaps)]


class Sizes(unittest.TestCase):
    def test_terms(self):
        one = Size(2, [((1, 0), 2), ((0, 1), 0), ((0, 0), -3), ((1, 0), 5), ((2, 2), 1), ((2, 2), -1)])
        self.assertEqual([one.gaps, one.terms], [2, (((0, 0), -3), ((1, 0), 7))])
        self.assertEqual(Size(1, []).terms, ())
        self.assertEqual(Size(1, (((1,), 0),)).terms, ())
        self.assertEqual(Size(2, [((0, 2), 1), ((0, 10), 1), ((0, 1), 1), ((1, 0), 1)]).terms, (((0, 1), 1), ((0, 2), 1), ((0, 10), 1), ((1, 0), 1)))
        self.assertIs(type(one.terms), tuple)

    def test_terms_stay_and_are_not_kept(self):
        terms = [((1,), 1), ((1,), 2)]
        one = Size(1, terms)
        self.assertEqual(terms, [((1,), 1), ((1,), 2)])
        terms.append(((0,), 4))
        self.assertEqual(one.terms, (((1,), 3),))
        tops = one.greatest()
        tops.clear()
        self.assertEqual(one.greatest(), [((1,), 3)])

    def test_equality(self):
        self.assertTrue(Size(1, [((1,), 1), ((0,), 2)]) == Size(1, [((0,), 2), ((1,), 4), ((1,), -3)]))
        self.assertTrue(Size(2, []) != Size(1, []))
        self.assertFalse(Size(1, []) == Size(2, []))
        for other in (0, None, (), 1, "", (1, ()), [1]):
            self.assertFalse(Size(1, []) == other)
            self.assertTrue(Size(1, []) != other)

    def test_what_it_tells(self):
        one = Size(2, [((0, 0), 5), ((1, 2), 3), ((3, 0), -1)])
        self.assertEqual([one([0, 0]), one((1, 2)), one([3, 1]), one([4, 4])], [5, 8, 4, 5 + 3 * 4 * 6 - 4])
        self.assertEqual(one([BIG, BIG]), 5 + 3 * BIG * comb(BIG, 2) - comb(BIG, 3))
        self.assertEqual(Size(1, [((1,), 1)])((7,)), 7)
        self.assertEqual(Size(12, [((1,) * 12, 1)])([2] * 12), 2 ** 12)
        numbers = [4, 4]
        one(numbers)
        self.assertEqual(numbers, [4, 4])

    def test_sums_and_products_by_what_they_tell(self):
        chance = seeded(111)
        for _ in range(300):
            gaps = chance.choice([1, 1, 2, 3, 7])
            one, other, n = some_size(chance, gaps), some_size(chance, gaps), chance.choice([-3, 0, 1, 2, 10 ** 20])
            before = (one.terms, other.terms)
            sums = [one + other, one - other, -one, one * other, n * one, one * n]
            for _ in range(4):
                numbers = some_numbers(chance, gaps)
                a, b = one(numbers), other(numbers)
                self.assertEqual([size(numbers) for size in sums], [a + b, a - b, -a, a * b, n * a, a * n])
            self.assertEqual(before, (one.terms, other.terms))
            for size in sums:
                self.assertIsInstance(size, Size)
                self.assertEqual(size, Size(gaps, list(reversed(size.terms))))
                self.assertEqual(size.gaps, gaps)
            self.assertEqual(one * other, other * one)
            self.assertEqual((one - one).terms, ())
            self.assertEqual(one + other - other, one)

    def test_known_products(self):
        line = Size(1, [((1,), 1)])
        self.assertEqual((line * line).terms, (((1,), 1), ((2,), 2)))
        self.assertEqual((line * line * line).terms, (((1,), 1), ((2,), 6), ((3,), 6)))
        self.assertEqual((3 * line).terms, (((1,), 3),))
        self.assertEqual((line * 0).terms, ())
        self.assertEqual((line * Size(1, [])).terms, ())

    def test_finer(self):
        line = Size(1, [((1,), 1)])
        self.assertEqual(line.finer(0).terms, (((0, 0), 1), ((0, 1), 1), ((1, 0), 1)))
        chance = seeded(112)
        for _ in range(200):
            gaps = chance.choice([1, 2, 3])
            one, gap = some_size(chance, gaps), chance.randrange(gaps)
            finer = one.finer(gap)
            self.assertEqual(finer.gaps, gaps + 1)
            for _ in range(5):
                numbers = some_numbers(chance, gaps + 1)
                joined = [*numbers[:gap], numbers[gap] + 1 + numbers[gap + 1], *numbers[gap + 2:]]
                self.assertEqual(finer(numbers), one(joined))

    def test_greatest(self):
        one = Size(2, [((0, 0), 9), ((2, 0), -1), ((1, 1), 4), ((1, 0), 3), ((0, 1), 3)])
        self.assertEqual(one.greatest(), [((1, 1), 4), ((2, 0), -1)])
        self.assertEqual([Size(3, []).greatest(), Size(1, [((0,), 2)]).greatest()], [[], [((0,), 2)]])
        self.assertEqual(Size(1, [((k,), 1) for k in range(5)]).greatest(), [((4,), 1)])
        chance = seeded(113)
        for _ in range(200):
            gaps = chance.choice([1, 2, 3])
            one = some_size(chance, gaps) + some_size(chance, gaps)
            expected = []
            for counts, number in one.terms:
                if not any(other != counts and all(a <= b for a, b in zip(counts, other)) for other, _ in one.terms):
                    expected.append((counts, number))
            self.assertEqual(one.greatest(), expected)

    def test_at_most(self):
        line, pairs, none = Size(1, [((1,), 1)]), Size(1, [((2,), 1)]), Size(1, [])
        self.assertEqual([line.at_most(pairs), (5 * line).at_most(pairs), pairs.at_most(5 * line), line.at_most(line), none.at_most(line), line.at_most(none)],
                         [True, True, False, True, True, False])
        self.assertIs(line.at_most(pairs), True)
        above, below = Size(2, [((0, 1), 1)]), Size(2, [((1, 0), 1)])
        self.assertEqual([above.at_most(below), below.at_most(above), above.at_most(above + below), (above + below).at_most(above * below)], [False, False, True, True])
        self.assertEqual([(above * below).at_most(above * above + below * below), Size(2, [((0, 0), 3)]).at_most(above)], [False, True])
        self.assertFalse((above - 2 * below).at_most(-below + above - 2 * below))

    def test_over_one_gap_one_is_at_most_the_other(self):
        chance = seeded(114)
        for _ in range(200):
            one, other = some_size(chance, 1), some_size(chance, 1)
            self.assertTrue(one.at_most(other) or other.at_most(one))
            far = one([BIG]) <= other([BIG])
            self.assertEqual(one.at_most(other), far)
            self.assertEqual(one.at_most(other) and other.at_most(one), one == other)

    def test_other_gaps(self):
        one, other = Size(1, [((1,), 1)]), Size(2, [((1, 0), 1)])
        for call in (lambda: one + other, lambda: one - other, lambda: one * other, lambda: one.at_most(other), lambda: other.at_most(one), lambda: Size(1, []) + Size(3, [])):
            with self.assertRaises(OtherGaps) as caught:
                call()
            self.assertIsInstance(caught.exception, LineError)


class SizeOf(unittest.TestCase):
    def test_known_sizes(self):
        self.assertEqual(size_of(LINE, ()), Size(1, [((1,), 1)]))
        self.assertEqual(size_of(EMPTY, (ZERO,)), Size(2, []))
        self.assertEqual(size_of(LINE, (ZERO, ONE)).terms, (((0, 0, 0), 2), ((0, 0, 1), 1), ((0, 1, 0), 1), ((1, 0, 0), 1)))
        self.assertEqual(size_of(made((ZERO,), [ONE]), ()), Size(2, [((0, 1), 1)]))
        self.assertEqual(size_of(made((ZERO,), [ONE]), (ZERO, ONE)), Size(3, [((0, 0, 0), 1), ((0, 0, 1), 1), ((0, 1, 0), 1)]))
        self.assertEqual(size_of(made((), ["a", "b", ("row", "a", ("set", (ZERO,), (ONE,)))]), ()).terms, (((0,), 2), ((1,), 1)))

    def test_it_tells_counts(self):
        chance = seeded(115)
        for _ in range(200):
            many, points = some_set(chance, 2), some_points(chance, chance.choice([0, 1, 2]))
            size, joined = size_of(many, points), merged_points(many[1], points)
            self.assertEqual(size.gaps, len(joined) + 1)
            numbers, sample = [], list(joined)
            for gap in range(len(joined) + 1):
                numbers.append(chance.choice([0, 1, 2, 4]))
                sample.extend(spread(joined, gap, numbers[-1]))
            self.assertEqual(count(many, ascending(sample)), size(numbers))
            shapes = [shape(value, joined) for value in orbits(many, points)]
            self.assertEqual(size.terms, tuple((counts, shapes.count(counts)) for counts in sorted(set(shapes))))

    def test_a_point_told_beside_makes_the_size_finer(self):
        chance = seeded(116)
        for _ in range(60):
            many = some_set(chance, 2)
            gap = chance.randrange(len(many[1]) + 1)
            self.assertEqual(size_of(many, tuple(spread(many[1], gap, 1))), size_of(many, ()).finer(gap))

    def test_700_orbits(self):
        letters = "abcdefghijklmnopqrstuvwxyz"
        many = made((), [("row", ZERO, ONE, a + b) for a in letters for b in letters][:100])
        self.assertEqual(size_of(many, ()), Size(1, [((2,), 100)]))
        self.assertEqual(size_of(many, (ZERO,)), Size(1, [((2,), 100)]).finer(0))
        self.assertEqual(sum(number for _, number in size_of(many, (ZERO, ONE)).terms), 1300)

    def test_nothing_that_is_handed_in_changes(self):
        many = made((ZERO,), [ONE])
        points = (ONE,)
        kept = copy_of([many, points])
        size_of(many, points)
        self.assertTrue(is_same_thing([many, points], kept))


if __name__ == "__main__":
    unittest.main()
