import unittest

from gapwise.errors import BadMove, LineError
from gapwise.making import EMPTY, LINE, is_in, made, orbits
from gapwise.placing import are_alike, moved, placed, shape
from gapwise.points import is_before, make_point
from gapwise.values import support
from tests.helping import HALVES, ascending, seeded, some_points, some_set, some_value

ZERO, ONE, TWO, THREE = (0, 1), (1, 1), (2, 1), (3, 1)
ABOVE = ("set", (ZERO,), (ONE,))
UP = ((ZERO, (1, 2)), (ONE, (7, 1)))


def led_in_its_gap(point, points):
    """Where a rising map that keeps the points leads a point."""
    below = [one for one in points if not is_before(point, one)]
    if not below:
        return make_point(point[0] - 10 * point[1], point[1])
    low = below[-1]
    return make_point(low[0] * point[1] + point[0] * low[1], 2 * low[1] * point[1])


class Moved(unittest.TestCase):
    def test_words_and_points(self):
        self.assertEqual([moved("a", UP), moved("a", ())], ["a", "a"])
        self.assertEqual([moved(ZERO, UP), moved(ONE, UP)], [(1, 2), (7, 1)])

    def test_rows(self):
        self.assertEqual(moved(("row", ONE, "a", ("row", ZERO, ONE)), UP), ("row", (7, 1), "a", ("row", (1, 2), (7, 1))))

    def test_sets_go_to_their_one_form(self):
        self.assertEqual(moved(ABOVE, UP), ("set", ((1, 2),), ((3, 2),)))
        between = ("set", (ZERO, ONE), ((1, 2),))
        self.assertEqual(moved(between, UP), ("set", ((1, 2), (7, 1)), ((15, 4),)))
        self.assertEqual([moved(LINE, UP), moved(EMPTY, UP), moved(LINE, ())], [LINE, EMPTY, LINE])

    def test_told_members_ascend_anew_by_their_texts(self):
        many = made((ZERO, ONE), [ZERO, ONE, (1, 2)])
        self.assertEqual(many, ("set", (ZERO, ONE), (ZERO, ONE, (1, 2))))
        move = ((ZERO, (-1, 1)), (ONE, (10, 1)))
        self.assertEqual(moved(many, move), ("set", ((-1, 1), (10, 1)), ((-1, 1), (10, 1), (9, 2))))
        move = ((ZERO, (9, 1)), (ONE, (10, 1)))
        self.assertEqual(moved(many, move), ("set", ((9, 1), (10, 1)), ((10, 1), (19, 2), (9, 1))))

    def test_sets_in_sets_and_rows(self):
        within = made((ZERO,), [("set", (ZERO, ONE), ((1, 2), TWO)), "w"])
        led = moved(within, ((ZERO, (5, 1)),))
        self.assertEqual(led, made(((5, 1),), [("set", ((5, 1), (6, 1)), ((11, 2), (7, 1))), "w"]))
        row = ("row", ABOVE, ONE)
        self.assertEqual(moved(row, UP), ("row", ("set", ((1, 2),), ((3, 2),)), (7, 1)))

    def test_points_of_told_members_play_no_role(self):
        move = ((ZERO, (5, 1)), (ONE, (100, 1)))
        self.assertEqual(moved(ABOVE, move), ("set", ((5, 1),), ((6, 1),)))
        self.assertEqual(moved(ABOVE, ((ZERO, (5, 1)),)), ("set", ((5, 1),), ((6, 1),)))

    def test_idle_olds(self):
        move = (((-9, 1), (-8, 1)), (ZERO, (1, 3)), (TWO, (1, 2)), (THREE, (4, 1)))
        self.assertEqual([moved(ZERO, move), moved("a", move), moved(ABOVE, move)], [(1, 3), "a", moved(ABOVE, move[1:2])])

    def test_the_move_of_nothing(self):
        many = made((ZERO, ONE), [("row", ZERO, (1, 2)), TWO])
        for value in ("a", ONE, ("row", ZERO, "a"), ABOVE, many):
            move = tuple((point, point) for point in support(value))
            self.assertEqual(moved(value, move), value)

    def test_bad_move_just_where_a_point_lacks(self):
        for value in (TWO, ("row", ZERO, TWO), ("set", (TWO,), (THREE,)), ("row", "a", ("row", TWO)), made((), [TWO, "a"])):
            if TWO in support(value):
                with self.assertRaises(BadMove) as caught:
                    moved(value, UP)
                self.assertIsInstance(caught.exception, LineError)
                with self.assertRaises(BadMove):
                    moved(value, ())
            else:
                moved(value, ())
        with self.assertRaises(BadMove):
            moved(("row", ABOVE, ONE), ((ONE, ONE),))
        self.assertEqual(moved(made((), [("row", TWO, THREE)]), ()), made((), [("row", TWO, THREE)]))

    def test_one_behind_the_other_and_back(self):
        chance = seeded(3)
        for _ in range(150):
            value = some_value(chance, 3)
            one = ascending(chance.sample([make_point(k, 3) for k in range(-40, 40)], len(HALVES)))
            other = ascending(chance.sample([make_point(k, 5) for k in range(-40, 40)], len(HALVES)))
            there = moved(value, tuple(zip(HALVES, one)))
            self.assertEqual(support(there), tuple(one[HALVES.index(point)] for point in support(value)))
            self.assertEqual(moved(moved(there, tuple(zip(one, other))), tuple(zip(other, HALVES))), value)
            self.assertEqual(moved(there, tuple(zip(one, other))), moved(value, tuple(zip(HALVES, other))))
            self.assertEqual(moved(there, tuple(zip(one, HALVES))), value)

    def test_members_are_led(self):
        chance = seeded(4)
        for _ in range(60):
            many = some_set(chance, 2)
            news = ascending(chance.sample([make_point(k, 3) for k in range(-40, 40)], len(HALVES)))
            move = tuple(zip(HALVES, news))
            for value in [some_value(chance, 2) for _ in range(5)]:
                self.assertEqual(is_in(value, many), is_in(moved(value, move), moved(many, move)))


class Placed(unittest.TestCase):
    def test_points(self):
        self.assertEqual([placed((7, 3), ()), placed((7, 3), ((7, 3),)), placed("a", (ZERO,))], [ZERO, (7, 3), "a"])
        self.assertEqual([placed((9, 1), (ZERO,)), placed((-9, 1), (ZERO,)), placed((1, 9), (ZERO, ONE))], [ONE, (-1, 1), (1, 2)])

    def test_rows_gap_by_gap(self):
        self.assertEqual(placed(("row", (5, 1), (9, 1), (3, 1)), ((5, 1),)), ("row", (5, 1), (6, 1), (4, 1)))
        value = ("row", (9, 10), (-4, 1), (1, 10), ("row", (7, 1), ONE, (1, 10)))
        self.assertEqual(placed(value, (ZERO, ONE)), ("row", (2, 3), (-1, 1), (1, 3), ("row", TWO, ONE, (1, 3))))
        self.assertEqual(placed(value, ()), ("row", TWO, ZERO, ONE, ("row", (4, 1), THREE, ONE)))

    def test_points_that_are_not_in_the_support_make_gaps_too(self):
        self.assertEqual(placed(("row", (1, 4), (3, 4)), (ZERO, (1, 2), ONE)), ("row", (1, 4), (3, 4)))
        self.assertEqual(placed(("row", (1, 4), (1, 3)), (ZERO, (1, 2), ONE)), ("row", (1, 6), (1, 3)))
        self.assertEqual(placed(("row", (5, 2), (17, 4)), (TWO, (4, 1))), ("row", THREE, (5, 1)))

    def test_sets(self):
        self.assertEqual([placed(LINE, (ZERO,)), placed(EMPTY, (ZERO,))], [LINE, EMPTY])
        self.assertEqual(placed(("set", ((7, 2),), ((9, 2),)), ()), ABOVE)
        self.assertEqual(placed(("set", ((7, 2),), ((9, 2),)), (ZERO, ONE)), ("set", (TWO,), (THREE,)))
        within = made((), [("set", ((5, 1),), ((6, 1),))])
        self.assertEqual(placed(within, (ZERO,)), within)

    def test_placed_twice_is_placed_once(self):
        chance = seeded(5)
        for _ in range(200):
            value, points = some_value(chance, 3), some_points(chance, chance.choice([0, 1, 2, 3]))
            once = placed(value, points)
            self.assertEqual(placed(once, points), once)
            self.assertTrue(are_alike(points, value, once))
            self.assertEqual(shape(value, points), shape(once, points))
            self.assertEqual([p for p in support(value) if p in points], [p for p in support(once) if p in points])


class Alike(unittest.TestCase):
    def test_points(self):
        self.assertIs(are_alike((ZERO,), TWO, (1, 9)), True)
        self.assertIs(are_alike((ZERO,), TWO, (-1, 9)), False)
        self.assertIs(are_alike((ZERO,), ZERO, (-1, 9)), False)
        self.assertIs(are_alike((), ZERO, (-1, 9)), True)
        self.assertIs(are_alike((ZERO,), ZERO, ZERO), True)
        self.assertIs(are_alike((), ZERO, "a"), False)
        self.assertIs(are_alike((), "b", "a"), False)

    def test_rows(self):
        self.assertTrue(are_alike((), ("row", ONE, ZERO, ONE), ("row", (9, 1), TWO, (9, 1))))
        self.assertFalse(are_alike((), ("row", ONE, ZERO), ("row", ZERO, ONE)))
        self.assertFalse(are_alike((), ("row", ONE, ZERO), ("row", ONE, ONE)))
        self.assertFalse(are_alike((), ("row", ONE), ONE))
        self.assertFalse(are_alike(((1, 2),), ("row", ZERO, ONE), ("row", (2, 3), ONE)))

    def test_sets_and_sets_of_sets(self):
        self.assertTrue(are_alike((), ABOVE, ("set", (TWO,), (THREE,))))
        self.assertFalse(are_alike((TWO,), ABOVE, ("set", (TWO,), (THREE,))))
        self.assertFalse(are_alike((), ABOVE, ("set", (TWO,), (ONE,))))
        self.assertFalse(are_alike((), EMPTY, LINE))
        one, other = made((ZERO,), [ABOVE, ZERO]), made((TWO,), [("set", (TWO,), (THREE,)), TWO])
        self.assertTrue(are_alike((), one, other))
        self.assertFalse(are_alike((ONE,), one, other))
        self.assertTrue(are_alike((THREE,), one, other))
        self.assertFalse(are_alike((), one, made((TWO,), [("set", (TWO,), (ONE,)), TWO])))
        self.assertTrue(are_alike((), made((), [one]), made((), [other])))

    def test_by_rising_maps(self):
        chance = seeded(6)
        for _ in range(150):
            value, points = some_value(chance, 3), some_points(chance, chance.choice([0, 1, 2]))
            move = tuple((half, led_in_its_gap(half, points)) for half in HALVES)
            self.assertTrue(are_alike(points, value, moved(value, move)))


class Shape(unittest.TestCase):
    def test_points_in_the_gaps(self):
        self.assertEqual(shape((7, 3), (ZERO, ONE)), (0, 0, 1))
        self.assertEqual(shape(("row", (7, 3), (1, 2), (1, 3), ONE), (ZERO, ONE)), (0, 2, 1))
        self.assertEqual(shape(("row", (7, 3), (7, 3)), (ZERO,)), (0, 1))

    def test_points_of_points_count_nowhere(self):
        self.assertEqual([shape(ZERO, (ZERO,)), shape(("row", ZERO, ONE), (ZERO, ONE))], [(0, 0), (0, 0, 0)])

    def test_no_points(self):
        self.assertEqual([shape("a", ()), shape(("row", ZERO, ONE), ()), shape("a", (ZERO,))], [(0,), (2,), (0, 0)])

    def test_sets_by_their_own_points(self):
        many = made((ZERO, TWO), [("row", ZERO, ONE, (5, 1)), TWO])
        self.assertEqual([shape(many, (ONE,)), shape(LINE, (ONE,)), shape(("row", many, (1, 2)), (ONE,))], [(1, 1), (0, 0), (2, 1)])


class OneOrbitOneShape(unittest.TestCase):
    def test_one_value_of_an_orbit_for_each_choice_of_points(self):
        many = made((), [("row", ZERO, ONE), ("row", ONE, ZERO)])
        values = orbits(many, (ZERO, ONE, TWO))
        on = [value for value in values if set(support(value)) <= {ZERO, ONE, TWO}]
        self.assertEqual(len(on), 6)


if __name__ == "__main__":
    unittest.main()
