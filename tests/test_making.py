import unittest

from gapwise.errors import NoPoint, NotThere
from gapwise.making import EMPTY, LINE, is_in, made, needed, orbits
from gapwise.placing import are_alike, moved, placed
from gapwise.points import make_point, merged_points
from gapwise.reading import check_value
from gapwise.trees import Program
from gapwise.values import depth, value_text
from tests.helping import ascending, copy_of, is_same_thing, seeded, some_points, some_set, some_value

ZERO, HALF, ONE, TWO, THREE = (0, 1), (1, 2), (1, 1), (2, 1), (3, 1)
ABOVE = ("set", (ZERO,), (ONE,))
RISING = ("set", (), (("row", ZERO, ONE),))


def told_plainly(points, values):
    """The set over points, whether points can be left out or not."""
    told = {value_text(placed(value, points)): placed(value, points) for value in values}
    return ("set", points, tuple(told[text] for text in sorted(told)))


def one_form(points, values, chance):
    """The one form, straight from the words: points are left out in any sequence, each tried with whole orbits."""
    many = told_plainly(points, values)
    again = True
    while again:
        again = False
        for point in chance.sample(many[1], len(many[1])):
            others = tuple(one for one in many[1] if one != point)
            alike = orbits(told_plainly(others, many[2]), many[1])
            if all(value in many[2] for value in alike):
                many, again = told_plainly(others, many[2]), True
                break
    return many


class Made(unittest.TestCase):
    def test_the_empty_set_and_the_line(self):
        self.assertEqual((EMPTY, LINE), (("set", (), ()), ("set", (), ((0, 1),))))
        self.assertEqual([made((), []), made((ZERO, ONE), []), made((), ())], [EMPTY] * 3)
        self.assertEqual([made((), [(7, 3)]), made((), [ONE, TWO, (-1, 2)])], [LINE, LINE])
        self.assertEqual(made((ZERO,), [(-1, 1), ZERO, ONE]), LINE)

    def test_points_that_can_be_left_out(self):
        self.assertEqual(made((ZERO, ONE), [HALF, ONE, (5, 1)]), ABOVE)
        self.assertEqual(made((ZERO, ONE, TWO), [(-1, 1), ZERO, HALF, ONE, (3, 2), TWO, THREE]), LINE)
        self.assertEqual(made((ONE, TWO), ["a"]), ("set", (), ("a",)))
        self.assertEqual(made((ZERO, ONE), [ZERO]), ("set", (ZERO,), (ZERO,)))
        self.assertEqual(made((ZERO, ONE, TWO), [(1, 3), ONE, (4, 3)]), ("set", (ZERO, TWO), (ONE,)))

    def test_points_that_cannot(self):
        self.assertEqual(made((ZERO,), [ONE]), ABOVE)
        self.assertEqual(made((ZERO,), [ZERO]), ("set", (ZERO,), (ZERO,)))
        self.assertEqual(made((ZERO,), [(-1, 1), ONE]), ("set", (ZERO,), ((-1, 1), ONE)))
        self.assertEqual(made((ZERO, ONE), [HALF, (5, 1)]), ("set", (ZERO, ONE), (HALF, TWO)))

    def test_rows_of_which_only_some_orbits_are_there(self):
        rows = [("row", (-2, 1), (-1, 1)), ("row", (-1, 1), ZERO), ("row", (-1, 1), ONE), ("row", ZERO, ONE), ("row", ONE, TWO)]
        self.assertEqual(made((ZERO,), rows), RISING)
        for row in rows:
            fewer = [other for other in rows if other != row]
            self.assertEqual(made((ZERO,), fewer)[1], (ZERO,))
            self.assertEqual(len(made((ZERO,), fewer)[2]), 4)

    def test_points_beside_a_gap_with_several_points(self):
        alike = orbits(RISING, (ZERO, ONE))
        self.assertEqual(len(alike), 13)
        self.assertEqual(made((ZERO, ONE), alike), RISING)
        for lacking in alike:
            self.assertNotEqual(made((ZERO, ONE), [row for row in alike if row != lacking]), RISING)

    def test_members_in_another_order_doubled_or_led_elsewhere(self):
        told = [("row", ZERO, ONE), ("row", TWO, TWO), "b", "a", (5, 1), (-1, 1)]
        many = made((ZERO,), told)
        self.assertEqual(many, ("set", (ZERO,), ((-1, 1), ONE, ("row", ZERO, ONE), ("row", ONE, ONE), "a", "b")))
        self.assertEqual(made((ZERO,), told[::-1]), many)
        self.assertEqual(made((ZERO,), told + told[:3]), many)
        elsewhere = [("row", ZERO, (7, 2)), ("row", HALF, HALF), "b", "a", (1, 9), (-8, 3)]
        self.assertEqual(made((ZERO,), elsewhere), many)
        self.assertEqual(made((ZERO,), tuple(told)), many)

    def test_told_members_ascend_by_their_texts(self):
        many = made((ZERO,), [ONE, (-1, 1), "a", ("row", "a"), ABOVE, ZERO])
        self.assertEqual(many[2], ((-1, 1), ZERO, ONE, ("row", "a"), "a", ABOVE))
        points = ((9, 1), (10, 1))
        self.assertEqual(made(points, [(9, 1), (10, 1), (19, 2)])[2], ((10, 1), (19, 2), (9, 1)))

    def test_told_over_more_points_by_all_their_orbits(self):
        chance = seeded(11)
        for _ in range(120):
            many = some_set(chance, 2)
            points = merged_points(many[1], some_points(chance, chance.choice([1, 2])))
            values = orbits(many, points)
            chance.shuffle(values)
            self.assertEqual(made(points, values), many)

    def test_the_one_form_straight_from_the_words(self):
        chance = seeded(12)
        for _ in range(150):
            source = some_set(chance, 2)
            points = merged_points(source[1], some_points(chance, chance.choice([1, 2])))
            kept = [value for value in orbits(source, points) if chance.random() < 0.85]
            many = made(points, kept)
            if len(kept) <= 40:
                self.assertEqual(many, one_form(points, kept, chance))
            if depth(many) <= 4:
                self.assertIsNone(check_value(many))

    def test_sets_in_sets(self):
        self.assertEqual(made((), [ABOVE]), ("set", (), (ABOVE,)))
        self.assertEqual(made((), [("set", ((5, 1),), ((6, 1),)), ABOVE]), ("set", (), (ABOVE,)))
        self.assertEqual(made((ZERO,), [ABOVE]), ("set", (ZERO,), (ABOVE,)))
        all_three = [("set", (point,), ((point[0] + 1, 1),)) for point in ((-1, 1), ZERO, ONE)]
        self.assertEqual(made((ZERO,), all_three), ("set", (), (ABOVE,)))
        self.assertEqual(made((ZERO,), all_three[:2])[1], (ZERO,))
        self.assertEqual(made((ZERO,), [LINE, EMPTY]), ("set", (), (LINE, EMPTY)))
        deep = made((), [made((ZERO,), [made((), [ABOVE])])])
        self.assertEqual(deep, ("set", (), (("set", (), (("set", (), (ABOVE,)),)),)))

    def test_equal_sets_are_equal_tuples(self):
        one = made((ZERO, TWO), [ZERO, ONE, TWO])
        other = made((ZERO, ONE, TWO), [TWO, (3, 2), ONE, HALF, ZERO])
        self.assertEqual(one, other)
        self.assertEqual(one, ("set", (ZERO, TWO), (ZERO, ONE, TWO)))

    def test_six_hundred_told_members_over_eight_points(self):
        chance = seeded(13)
        points = tuple((k, 1) for k in range(8))
        rows = [("row", *[make_point(chance.randrange(-4, 40), 4) for _ in range(4)]) for _ in range(600)]
        many = made(points, rows)
        self.assertEqual((many[1], len(many[2])), (points, len({value_text(placed(row, points)) for row in rows})))
        self.assertIsNone(check_value(many))
        self.assertEqual(orbits(many, ()), list(many[2]))
        self.assertTrue(all(is_in(row, many) for row in rows))
        for point in points:
            v, w = needed(many, point)
            self.assertEqual((is_in(v, many), is_in(w, many)), (True, False))


    def test_six_hundred_told_members_those_of_sets_within_counted(self):
        chance = seeded(16)
        quarters = [make_point(k, 4) for k in range(-20, 60)]
        four = ascending(chance.sample(quarters, 4))
        parts = []
        for _ in range(4):
            points = merged_points(four, ascending(chance.sample(quarters, 4)))
            parts.append(made(points, [("row", *[chance.choice(quarters) for _ in range(4)]) for _ in range(148)]))
        many = made(four, parts)
        self.assertGreater(sum(len(part[2]) for part in many[2]), 560)
        self.assertEqual((many[1], len(many[2])), (four, 4))
        self.assertIsNone(check_value(many))
        self.assertTrue(all(is_in(part, many) for part in parts))
        move = tuple((point, make_point(3 * point[0] + point[1], 5 * point[1])) for point in four)
        news = tuple(new for _, new in move)
        self.assertEqual(moved(moved(many, move), tuple(zip(news, four))), many)
        further = ascending(chance.sample(quarters, 2))
        values = orbits(many, further)
        self.assertEqual(made(merged_points(four, further), values), many)
        for point in four:
            v, w = needed(many, point)
            self.assertEqual((is_in(v, many), is_in(w, many)), (True, False))


class Orbits(unittest.TestCase):
    def test_over_the_set_s_points_alone(self):
        self.assertEqual([orbits(EMPTY, ()), orbits(LINE, ()), orbits(ABOVE, ())], [[], [ZERO], [ONE]])
        self.assertEqual(orbits(EMPTY, (ZERO,)), [])

    def test_over_further_ones(self):
        self.assertEqual(orbits(LINE, (ZERO, ONE)), [(-1, 1), ZERO, ONE, HALF, TWO])
        self.assertEqual(orbits(ABOVE, (ONE,)), [ONE, HALF, TWO])
        self.assertEqual(orbits(ABOVE, (ZERO, ONE)), [ONE, HALF, TWO])
        self.assertEqual(orbits(ABOVE, ((-1, 1),)), [ONE])
        rows = [("row", (-1, 1), ZERO), ("row", (-1, 1), ONE), ("row", (-2, 1), (-1, 1)), ("row", ZERO, ONE), ("row", ONE, TWO)]
        self.assertEqual(orbits(RISING, (ZERO,)), rows)

    def test_of_sets_of_sets(self):
        many = made((), [ABOVE])
        self.assertEqual(orbits(many, (ZERO,)), [("set", ((-1, 1),), (ZERO,)), ABOVE, ("set", (ONE,), (TWO,))])

    def test_told_lists_are_new(self):
        told = orbits(LINE, (ZERO,))
        self.assertIsInstance(told, list)
        told.clear()
        self.assertEqual(orbits(LINE, (ZERO,)), [(-1, 1), ZERO, ONE])

    def test_each_just_once_placed_in_the_order_of_their_texts(self):
        chance = seeded(14)
        for _ in range(120):
            many, further = some_set(chance, 2), some_points(chance, chance.choice([0, 1, 2]))
            points = merged_points(many[1], further)
            told = orbits(many, further)
            self.assertEqual([placed(value, points) for value in told], told)
            texts = [value_text(value) for value in told]
            self.assertEqual(texts, sorted(set(texts)))
            self.assertTrue(all(is_in(value, many) for value in told))
            self.assertEqual(made(points, told), many)
            for value in [some_value(chance, 2) for _ in range(4)]:
                self.assertEqual(is_in(value, many), placed(value, points) in told)

    def test_thousands(self):
        many = made((), [("row", ZERO, ONE, TWO, THREE), ("row", THREE, TWO, ONE, ZERO), ("row", ZERO, ZERO, ONE, TWO)])
        told = orbits(many, tuple((k, 1) for k in range(6)))
        self.assertEqual(len(told), 1289 + 1289 + 377)


class IsIn(unittest.TestCase):
    def test_over_no_points(self):
        self.assertIs(is_in((5, 3), LINE), True)
        self.assertIs(is_in("a", LINE), False)
        self.assertIs(is_in(("row", (5, 1)), LINE), False)
        self.assertIs(is_in((5, 3), EMPTY), False)
        self.assertIs(is_in(("row", (5, 1), (17, 3)), RISING), True)
        self.assertIs(is_in(("row", (17, 3), (5, 1)), RISING), False)
        self.assertIs(is_in(("row", (5, 1), (5, 1)), RISING), False)
        self.assertIs(is_in(LINE, LINE), False)

    def test_over_one_and_more_points(self):
        self.assertEqual([is_in(point, ABOVE) for point in ((-1, 9), ZERO, (1, 9), (99, 1))], [False, False, True, True])
        many = made((ZERO, ONE), [HALF, ("row", ZERO, TWO)])
        self.assertEqual([is_in(point, many) for point in (ZERO, (1, 9), ONE, (9, 8))], [False, True, False, False])
        self.assertEqual([is_in(("row", ZERO, p), many) for p in (ONE, (9, 8))], [False, True])
        self.assertFalse(is_in(("row", (-1, 1), TWO), many))

    def test_sets(self):
        many = made((ZERO,), [ABOVE, ("set", (ONE,), (ZERO,))])
        self.assertEqual([is_in(ABOVE, many), is_in(("set", (ONE,), (TWO,)), many)], [True, False])
        self.assertEqual([is_in(("set", (p,), ((p[0] - 1, 1),)), many) for p in (ONE, THREE, (-1, 1))], [True, True, False])
        self.assertEqual([is_in(EMPTY, many), is_in(EMPTY, made((), [EMPTY]))], [False, True])


class Needed(unittest.TestCase):
    def check(self, many, point):
        told = needed(many, point)
        self.assertIsInstance(told, tuple)
        v, w = told
        others = tuple(one for one in many[1] if one != point)
        self.assertEqual((is_in(v, many), is_in(w, many)), (True, False))
        self.assertTrue(are_alike(others, v, w))

    def test_each_point(self):
        self.check(ABOVE, ZERO)
        self.check(("set", (ZERO,), (ZERO,)), ZERO)
        self.check(("set", (ZERO,), ((-1, 1), ONE)), ZERO)
        self.check(made((ZERO,), [ABOVE]), ZERO)
        self.check(made((ZERO,), [("row", ZERO, ONE, ONE)]), ZERO)
        points = (ZERO, ONE, TWO)
        self.check(made(points, [value for value in orbits(LINE, points) if value not in points]), ONE)
        rows = orbits(made((), [("row", ZERO, ONE, TWO)]), points)
        for place in (1, 2, 3):
            for point in points:
                without = made(points, [row for row in rows if row[place] != point])
                self.assertEqual(without[1], (point,))
                self.check(without, point)
                self.check(made(points, [row for row in rows if row[place] not in points]), point)
        for row in rows:
            for point in [one for one in points if one in row]:
                self.check(made(points, [other for other in rows if other != row]), point)
        chance = seeded(15)
        for _ in range(150):
            many = some_set(chance, 2)
            for point in many[1]:
                self.check(many, point)

    def test_no_point_of_any_value(self):
        for point in (ONE, (-1, 1), "a", None, True, 0, 3, [0, 1], (0, 1, 1), (), {}, {"a": [1]}, [[0], [1]], LINE, (False, 1),
                      (0, True), ((0, 1),), Program((), (), ()), (0, 2), (2, 0)):
            for many in (ABOVE, LINE, EMPTY):
                told = copy_of(point)
                with self.assertRaises(NoPoint) as caught:
                    needed(many, point)
                self.assertTrue(is_same_thing(caught.exception.point, told))
                self.assertTrue(is_same_thing(point, told))
                self.assertIsInstance(caught.exception, NotThere)
                self.assertIsInstance(caught.exception, LookupError)
                if isinstance(point, (list, dict)):
                    self.assertIsNot(caught.exception.point, point)


if __name__ == "__main__":
    unittest.main()
