import unittest

from gapwise.algebra import all_of, both, is_within, join, joined_points, less, orbit_sets, outside
from gapwise.errors import LineError, TooMany
from gapwise.making import EMPTY, LINE, is_in, made, orbits
from gapwise.placing import moved
from gapwise.points import make_point, merged_points
from gapwise.reading import check_value
from gapwise.values import depth, support
from tests.helping import HALVES, ascending, seeded, some_points, some_set, some_value

ZERO, HALF, ONE, TWO, THREE = (0, 1), (1, 2), (1, 1), (2, 1), (3, 1)
ABOVE, OVER = ("set", (ZERO,), (ONE,)), ("set", (ONE,), (TWO,))
BELOW = ("set", (ZERO,), ((-1, 1),))
RISING = ("set", (), (("row", ZERO, ONE),))


def words(many):
    """So many words."""
    letters = "abcdefghijklmnopqrstuvwxyz"
    return [letters[k // 26 // 26] + letters[k // 26 % 26] + letters[k % 26] for k in range(many)]


def word_set(many):
    return made((), words(many))


class Joined(unittest.TestCase):
    def test_joined_points(self):
        self.assertEqual(joined_points(OVER, ABOVE), (ZERO, ONE))
        self.assertEqual(joined_points(LINE, EMPTY), ())
        one, other = made((ZERO, TWO), [ZERO, TWO]), made((HALF, TWO), [HALF, TWO])
        self.assertEqual(joined_points(one, other), (ZERO, HALF, TWO))
        self.assertEqual(joined_points(one, LINE), (ZERO, TWO))

    def test_join(self):
        self.assertEqual([join(ABOVE, OVER), join(OVER, ABOVE)], [ABOVE, ABOVE])
        self.assertEqual(join(BELOW, ABOVE), ("set", (ZERO,), ((-1, 1), ONE)))
        self.assertEqual(join(made((ZERO,), [(-1, 1), ZERO]), ABOVE), LINE)
        self.assertEqual([join(LINE, EMPTY), join(EMPTY, LINE), join(EMPTY, EMPTY)], [LINE, LINE, EMPTY])
        self.assertEqual(join(LINE, made((), ["a"])), ("set", (), (ZERO, "a")))
        self.assertEqual(join(made((ZERO,), [ZERO]), made((ONE,), [ONE])), ("set", (ZERO, ONE), (ZERO, ONE)))

    def test_both(self):
        self.assertEqual([both(ABOVE, OVER), both(OVER, ABOVE)], [OVER, OVER])
        self.assertEqual([both(BELOW, ABOVE), both(LINE, EMPTY), both(LINE, LINE)], [EMPTY, EMPTY, LINE])
        below_one = ("set", (ONE,), (ZERO,))
        self.assertEqual(both(ABOVE, below_one), ("set", (ZERO, ONE), (HALF,)))
        self.assertEqual(both(join(LINE, RISING), RISING), RISING)
        self.assertEqual(both(RISING, LINE), EMPTY)

    def test_less(self):
        self.assertEqual(less(ABOVE, OVER), ("set", (ZERO, ONE), (ONE, HALF)))
        self.assertEqual([less(OVER, ABOVE), less(LINE, LINE), less(EMPTY, LINE), less(LINE, EMPTY)], [EMPTY, EMPTY, EMPTY, LINE])
        self.assertEqual(less(LINE, made((ZERO,), [ZERO])), ("set", (ZERO,), ((-1, 1), ONE)))
        self.assertEqual(less(LINE, ABOVE), ("set", (ZERO,), ((-1, 1), ZERO)))

    def test_points_that_go(self):
        gap = less(LINE, made((ZERO, ONE), [ZERO, ONE]))
        self.assertEqual(gap[1], (ZERO, ONE))
        self.assertEqual(join(gap, made((ZERO,), [ZERO]))[1], (ONE,))
        self.assertEqual(less(less(LINE, made((ZERO,), [ZERO])), BELOW), ABOVE)
        self.assertEqual(both(join(ABOVE, made((), ["a"])), made((), ["a"])), ("set", (), ("a",)))
        self.assertEqual(less(join(RISING, ABOVE), ABOVE), RISING)

    def test_sets_in_sets(self):
        ups, all_sets = made((ZERO,), [ABOVE]), made((), [ABOVE])
        self.assertEqual(join(ups, all_sets), all_sets)
        self.assertEqual(both(ups, all_sets), ups)
        rest = less(all_sets, ups)
        self.assertEqual(rest, made((ZERO,), [OVER, ("set", ((-1, 1),), (ZERO,))]))
        self.assertEqual(join(rest, ups), all_sets)
        self.assertEqual(join(made((), [LINE]), made((), [EMPTY])), made((), [LINE, EMPTY]))

    def test_against_each_other(self):
        chance = seeded(31)
        for _ in range(120):
            one, other = some_set(chance, 2), some_set(chance, 2)
            if chance.random() < 0.5:
                other = join(other, both(one, some_set(chance, 1)))
            every, shared, rest = join(one, other), both(one, other), less(one, other)
            self.assertEqual(join(shared, rest), one)
            self.assertEqual(join(join(rest, shared), less(other, one)), every)
            self.assertEqual(less(one, rest), shared)
            self.assertEqual([join(other, one), both(other, one)], [every, shared])
            self.assertEqual([both(every, one), less(every, other)], [one, rest])
            for value in [some_value(chance, 2) for _ in range(6)] + orbits(every, ())[:4]:
                first, second = is_in(value, one), is_in(value, other)
                self.assertEqual(is_in(value, every), first or second)
                self.assertEqual(is_in(value, shared), first and second)
                self.assertEqual(is_in(value, rest), first and not second)
            for many in (every, shared, rest):
                if depth(many) <= 4:
                    self.assertIsNone(check_value(many))
            move = tuple(zip(HALVES, ascending(chance.sample([make_point(k, 3) for k in range(-40, 40)], len(HALVES)))))
            self.assertEqual(moved(rest, move), less(moved(one, move), moved(other, move)))

    def test_too_many(self):
        whole, more = word_set(600), word_set(601)
        self.assertEqual(len(join(word_set(300), whole)[2]), 600)
        self.assertEqual(len(join(whole, EMPTY)[2]), 600)
        for one, other in ((whole, more), (more, whole), (more, EMPTY), (whole, LINE), (made((), words(601)[300:]), word_set(300))):
            with self.assertRaises(TooMany) as caught:
                join(one, other)
            self.assertIsInstance(caught.exception, LineError)
        self.assertEqual(len(both(whole, more)[2]), 600)
        with self.assertRaises(TooMany):
            both(more, more)
        self.assertEqual(len(less(more, word_set(1))[2]), 600)
        with self.assertRaises(TooMany):
            less(more, EMPTY)
        self.assertEqual(less(word_set(700), word_set(650)), made((), words(700)[650:]))

    def test_the_result_alone_counts(self):
        more = word_set(700)
        self.assertEqual(both(more, word_set(3)), word_set(3))
        self.assertEqual(both(more, LINE), EMPTY)
        self.assertEqual(less(more, more), EMPTY)
        self.assertEqual(less(LINE, more), LINE)

    def test_too_many_also_where_the_set_itself_would_be_small(self):
        rows = made((), [("row", *[(k, 1) for k in order]) for order in ((0, 1, 2, 3), (3, 2, 1, 0))])
        four = tuple((k, 1) for k in range(4))
        self.assertEqual(len(orbits(rows, four)), 2 * 321)
        corner = made(four, [("row", *four)])
        self.assertEqual(len(rows[2]), 2)
        with self.assertRaises(TooMany):
            join(rows, corner)
        with self.assertRaises(TooMany):
            join(corner, rows)
        with self.assertRaises(TooMany):
            less(rows, corner)
        self.assertEqual(both(rows, corner), corner)
        self.assertEqual(less(corner, rows), EMPTY)

    def test_six_hundred_and_one_orbits_over_the_joined_points(self):
        four = tuple((k, 1) for k in range(4))
        rows = made((), [("row", ZERO, ONE, TWO, THREE)])
        corner = made(four, [("row", *four)])
        self.assertEqual(len(orbits(rows, four)), 321)
        exactly = join(rows, word_set(600 - 321))
        self.assertEqual(join(exactly, corner), exactly)
        with self.assertRaises(TooMany):
            join(join(rows, word_set(601 - 321)), corner)
        self.assertEqual(len(less(join(rows, word_set(601 - 321)), corner)[2]), 600)
        with self.assertRaises(TooMany):
            less(join(rows, word_set(602 - 321)), corner)
        self.assertEqual(both(exactly, join(exactly, corner)), exactly)


class Within(unittest.TestCase):
    def test_is_within(self):
        self.assertIs(is_within(OVER, ABOVE), True)
        self.assertIs(is_within(ABOVE, OVER), False)
        self.assertIs(is_within(ABOVE, ABOVE), True)
        self.assertEqual([is_within(EMPTY, LINE), is_within(LINE, EMPTY), is_within(EMPTY, EMPTY)], [True, False, True])
        self.assertEqual([is_within(ABOVE, LINE), is_within(LINE, ABOVE), is_within(LINE, RISING)], [True, False, False])
        self.assertEqual([is_within(made((ZERO,), [ABOVE]), made((), [ABOVE])), is_within(made((), [ABOVE]), made((ZERO,), [ABOVE]))],
                         [True, False])

    def test_outside(self):
        self.assertIsNone(outside(OVER, ABOVE))
        self.assertEqual([outside(ABOVE, OVER), outside(LINE, ABOVE), outside(LINE, EMPTY)], [ONE, (-1, 1), ZERO])
        self.assertIsNone(outside(EMPTY, ABOVE))
        self.assertEqual(outside(LINE, made((ZERO,), [(-1, 1), ONE])), ZERO)
        self.assertEqual(outside(made((), ["b", "a", "c"]), made((), ["a"])), "b")

    def test_the_first_of_the_orbits_over_the_joined_points(self):
        chance = seeded(32)
        for _ in range(150):
            one, other = some_set(chance, 2), some_set(chance, 2)
            if chance.random() < 0.6:
                other = join(other, both(one, some_set(chance, 1)))
            strange = [value for value in orbits(one, joined_points(one, other)) if not is_in(value, other)]
            self.assertEqual(outside(one, other), strange[0] if strange else None)
            self.assertIs(is_within(one, other), not strange)
            self.assertEqual(one == other, is_within(one, other) and is_within(other, one))

    def test_no_too_many(self):
        whole, more = word_set(700), word_set(650)
        self.assertEqual([is_within(more, whole), is_within(whole, more)], [True, False])
        self.assertEqual([outside(more, whole), outside(whole, more)], [None, words(700)[650]])
        four = tuple((k, 1) for k in range(4))
        rows = made((), [("row", ZERO, ONE, TWO, THREE), ("row", THREE, TWO, ONE, ZERO)])
        corner = made(four, [("row", *four)])
        self.assertEqual([is_within(corner, rows), is_within(rows, corner)], [True, False])
        self.assertEqual(outside(rows, corner), orbits(rows, four)[0])


class OrbitSets(unittest.TestCase):
    def test_of_the_line(self):
        self.assertEqual(orbit_sets(LINE, ()), [LINE])
        self.assertEqual(orbit_sets(LINE, (ZERO,)), [BELOW, ("set", (ZERO,), (ZERO,)), ABOVE])
        self.assertEqual(orbit_sets(EMPTY, (ZERO,)), [])

    def test_each_in_its_one_form(self):
        told = orbit_sets(LINE, (ZERO, ONE))
        self.assertEqual([many[1] for many in told], [(ZERO,), (ZERO,), (ONE,), (ZERO, ONE), (ONE,)])
        told = orbit_sets(made((), ["a", "b"]), (ZERO,))
        self.assertEqual(told, [("set", (), ("a",)), ("set", (), ("b",))])

    def test_told_lists_are_new(self):
        told = orbit_sets(LINE, (ZERO,))
        self.assertIsInstance(told, list)
        told.clear()
        self.assertEqual(len(orbit_sets(LINE, (ZERO,))), 3)

    def test_one_for_each_orbit(self):
        chance = seeded(33)
        for _ in range(100):
            many, further = some_set(chance, 2), some_points(chance, chance.choice([0, 1, 2]))
            points = merged_points(many[1], further)
            values, told = orbits(many, further), orbit_sets(many, further)
            self.assertEqual(told, [made(points, [value]) for value in values])
            if len(told) <= 12:
                whole = EMPTY
                for part in told:
                    self.assertEqual(both(whole, part), EMPTY)
                    whole = join(whole, part)
                self.assertEqual(whole, many)

    def test_thousands(self):
        rows = made((), [("row", ZERO, ONE, TWO, THREE), ("row", THREE, TWO, ONE, ZERO)])
        six = tuple((k, 1) for k in range(6))
        self.assertEqual(len(orbit_sets(rows, six)), 2 * 1289)


class AllOf(unittest.TestCase):
    def test_sets_of_sets(self):
        ups = ("set", ((5, 1),), (("set", ((4, 1),), ((5, 1),)),))
        self.assertEqual([all_of(made((), [ABOVE])), all_of(ups), all_of(EMPTY)], [LINE, LINE, EMPTY])
        self.assertEqual(all_of(made((), [EMPTY])), EMPTY)
        self.assertEqual(all_of(made((), [LINE, EMPTY])), LINE)
        self.assertEqual(all_of(made((ZERO,), [ABOVE])), ABOVE)
        self.assertEqual(all_of(made((ZERO,), [OVER])), ABOVE)
        self.assertEqual(all_of(made((ONE,), [ABOVE])), LINE)
        self.assertEqual(all_of(made((ZERO,), [made((ZERO, ONE), [ZERO, ONE])])), made((ZERO,), [ZERO, ONE]))
        self.assertEqual(all_of(made((ZERO, THREE), [made((ONE, TWO), [(3, 2)])])), made((ZERO, THREE), [ONE]))

    def test_sets_of_rows_and_of_sets(self):
        many = made((ZERO,), [made((ZERO, ONE), [("row", ZERO, HALF), ("row", ONE, "a")])])
        self.assertEqual(all_of(many), made((ZERO,), [("row", ZERO, HALF), ("row", ONE, "a")]))
        deep = made((), [made((ZERO,), [ABOVE, "a"])])
        self.assertEqual(all_of(deep), made((), [ABOVE, "a"]))

    def test_members_of_members(self):
        chance = seeded(34)
        for _ in range(80):
            parts = [some_set(chance, 1) for _ in range(chance.choice([1, 2]))]
            many = made(some_points(chance, chance.choice([0, 1, 2])), parts)
            told = all_of(many)
            for value in [some_value(chance, 1) for _ in range(6)] + list(parts[0][2])[:3]:
                around = orbits(many, support(value))
                self.assertEqual(is_in(value, told), any(is_in(value, one) for one in around))

    def test_too_many(self):
        self.assertEqual(len(all_of(made((), [word_set(300), made((), words(600)[300:])]))[2]), 600)
        with self.assertRaises(TooMany):
            all_of(made((), [word_set(300), made((), words(601)[300:])]))
        four = tuple((k, 1) for k in range(4))
        rows = made((), [("row", ZERO, ONE, TWO, THREE), ("row", THREE, TWO, ONE, ZERO)])
        self.assertEqual(len(all_of(made((), [rows]))[2]), 2)
        marked = made(four, [rows, made((), [("row", "a", *four[:3])]), made(four, [("row", *four)])])
        with self.assertRaises(TooMany):
            all_of(marked)
        self.assertEqual(all_of(made(four[:3], [rows, made(four[:3], [four[0]])]))[1], (ZERO,))


if __name__ == "__main__":
    unittest.main()
