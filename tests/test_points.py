import unittest
from fractions import Fraction

from gapwise.errors import BadPoint, LineError
from gapwise.points import gap_of, is_before, make_point, spread

ZERO, ONE, TWO = (0, 1), (1, 1), (2, 1)
LONG = 10 ** 29 + 7


class MakePoint(unittest.TestCase):
    def test_lowest_terms(self):
        self.assertEqual(make_point(4, 6), (2, 3))
        self.assertEqual(make_point(3, 7), (3, 7))
        self.assertEqual(make_point(12, 4), (3, 1))
        self.assertEqual(make_point(1, 1), (1, 1))

    def test_signs(self):
        self.assertEqual(make_point(4, -6), (-2, 3))
        self.assertEqual(make_point(-4, 6), (-2, 3))
        self.assertEqual(make_point(-4, -6), (2, 3))
        self.assertEqual(make_point(5, -1), (-5, 1))
        self.assertEqual(make_point(-5, -1), (5, 1))

    def test_zero(self):
        self.assertEqual([make_point(0, 5), make_point(0, -5), make_point(0, 1)], [ZERO, ZERO, ZERO])

    def test_long_numbers(self):
        self.assertEqual(make_point(6 * LONG, 4 * LONG), (3, 2))
        self.assertEqual(make_point(LONG * 10, -(LONG + 1) * 10), make_point(-LONG, LONG + 1))
        self.assertEqual(make_point(10 ** 40 + 1, 10 ** 40), (10 ** 40 + 1, 10 ** 40))

    def test_all_small_ones(self):
        for p in range(-12, 13):
            for q in [k for k in range(-12, 13) if k]:
                told = Fraction(p, q)
                self.assertEqual(make_point(p, q), (told.numerator, told.denominator))

    def test_bad_point(self):
        for p in (3, 0, -7):
            with self.assertRaises(BadPoint) as caught:
                make_point(p, 0)
            self.assertEqual((caught.exception.p, caught.exception.q), (p, 0))
            self.assertIsInstance(caught.exception, LineError)
            self.assertIsInstance(caught.exception, ValueError)


class IsBefore(unittest.TestCase):
    def test_unlike_second_numbers(self):
        self.assertIs(is_before((1, 3), (1, 2)), True)
        self.assertIs(is_before((1, 2), (1, 3)), False)
        self.assertIs(is_before((-1, 2), (-1, 3)), True)
        self.assertIs(is_before((7, 3), (5, 2)), True)
        self.assertIs(is_before((5, 2), (7, 3)), False)
        self.assertIs(is_before((-1, 5), (1, 100)), True)

    def test_the_same_point(self):
        self.assertIs(is_before((2, 3), (2, 3)), False)

    def test_long_numbers(self):
        self.assertTrue(is_before((LONG, LONG + 1), (LONG + 1, LONG + 2)))
        self.assertFalse(is_before((LONG + 1, LONG + 2), (LONG, LONG + 1)))

    def test_as_fractions(self):
        points = [make_point(p, q) for p in range(-5, 6) for q in range(1, 5)]
        for one in points:
            for other in points:
                self.assertEqual(is_before(one, other), Fraction(*one) < Fraction(*other))


class GapOf(unittest.TestCase):
    def test_each_gap_and_each_point(self):
        points = (ZERO, ONE, (3, 2), TWO)
        inside = [(-1, 3), (1, 2), (5, 4), (7, 4), (5, 2)]
        self.assertEqual([gap_of(points, point) for point in inside], [0, 1, 2, 3, 4])
        self.assertEqual([gap_of(points, point) for point in points], [None] * 4)

    def test_one_point(self):
        self.assertEqual([gap_of((ONE,), point) for point in (ZERO, ONE, TWO)], [0, None, 1])

    def test_no_points(self):
        self.assertEqual([gap_of((), point) for point in (ZERO, (-7, 2), (10 ** 29, 1))], [0, 0, 0])


class Spread(unittest.TestCase):
    def test_between(self):
        self.assertEqual(spread((ZERO, TWO), 1, 3), [(1, 2), (1, 1), (3, 2)])
        self.assertEqual(spread((ZERO, ONE), 1, 1), [(1, 2)])
        self.assertEqual(spread((ZERO, ONE), 1, 2), [(1, 3), (2, 3)])
        self.assertEqual(spread(((-1, 2), (1, 3), TWO), 1, 1), [(-1, 12)])
        self.assertEqual(spread(((-1, 2), (1, 3), TWO), 2, 4), [(2, 3), (1, 1), (4, 3), (5, 3)])

    def test_below_and_above(self):
        self.assertEqual(spread((ZERO, TWO), 0, 2), [(-2, 1), (-1, 1)])
        self.assertEqual(spread((ZERO, TWO), 2, 3), [(3, 1), (4, 1), (5, 1)])
        self.assertEqual(spread(((1, 2), TWO), 0, 3), [(-5, 2), (-3, 2), (-1, 2)])
        self.assertEqual(spread((ZERO, (7, 3)), 2, 2), [(10, 3), (13, 3)])

    def test_one_point(self):
        self.assertEqual(spread(((1, 2),), 0, 1), [(-1, 2)])
        self.assertEqual(spread(((1, 2),), 1, 2), [(3, 2), (5, 2)])

    def test_no_points_around(self):
        self.assertEqual(spread((), 0, 3), [ZERO, ONE, TWO])
        self.assertEqual(spread((), 0, 1), [ZERO])

    def test_no_places(self):
        self.assertEqual([spread((), 0, 0), spread((ZERO,), 0, 0), spread((ZERO,), 1, 0)], [[], [], []])
        self.assertEqual(spread((ZERO, ONE), 1, 0), [])

    def test_as_told(self):
        points = ((-3, 2), (1, 7), (5, 3))
        for gap in (1, 2):
            low, high = Fraction(*points[gap - 1]), Fraction(*points[gap])
            for n in range(6):
                told = [low + (high - low) * i / (n + 1) for i in range(1, n + 1)]
                self.assertEqual([Fraction(*point) for point in spread(points, gap, n)], told)
                self.assertEqual(spread(points, gap, n), [make_point(*point) for point in spread(points, gap, n)])

    def test_told_lists_are_new(self):
        for points, gap in (((), 0), ((ZERO,), 0), ((ZERO,), 1), ((ZERO, ONE), 1)):
            told = spread(points, gap, 2)
            kept = list(told)
            self.assertIsInstance(told, list)
            told.append("x")
            self.assertEqual(spread(points, gap, 2), kept)


if __name__ == "__main__":
    unittest.main()
