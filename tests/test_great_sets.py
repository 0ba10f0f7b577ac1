"""Calls on sets with some hundred told members: what they tell, and that they don't take long."""

import sys
import unittest

from gapwise.algebra import both, is_within, join, joined_points, less, outside
from gapwise.errors import TooMany
from gapwise.making import EMPTY, is_in, made, needed, orbits
from gapwise.products import firsts, many_pairs, seconds
from gapwise.values import value_text
from tests.helping import seeded, some_points, some_set, some_value

ZERO, ONE = (0, 1), (1, 1)
LETTERS = "abcdefghij"
WORDS = [a + b + c for a in LETTERS for b in LETTERS for c in LETTERS][:500]
GREAT = ("set", (), tuple([("row", ZERO, word) for word in WORDS]))
TWO = ("set", (ZERO, ONE), (ZERO, ONE))
SOME = ("set", (), (*GREAT[2][:200], "aaa"))
POINT = ("set", (ZERO,), (ZERO,))
HALF = made((ZERO,), [("row", ONE, word) for word in WORDS[:250]])
THIRD = ("set", (), tuple(WORDS[:300]))


def steps(function, *parts):
    """How many calls of functions it takes: the same number on each machine."""
    found = []
    sys.setprofile(lambda frame, event, thing: found.append(None) if event in ("call", "c_call") else None)
    try:
        function(*parts)
    except TooMany:
        pass
    finally:
        sys.setprofile(None)
    return len(found)


class GreatSets(unittest.TestCase):
    def test_what_is_told(self):
        self.assertEqual(outside(GREAT, TWO), ("row", (-1, 1), "aaa"))
        self.assertEqual([outside(TWO, GREAT), outside(HALF, GREAT), outside(SOME, GREAT)], [ZERO, None, "aaa"])
        self.assertEqual(outside(GREAT, HALF), ("row", (-1, 1), "aaa"))
        self.assertEqual(outside(SOME, POINT), ("row", (-1, 1), "aaa"))
        self.assertEqual(many_pairs(GREAT, GREAT), 750000)
        self.assertEqual(many_pairs(GREAT, TWO), 500 * 2 * 5)
        self.assertEqual(many_pairs(HALF, GREAT), 250 * 500 * 5)
        self.assertEqual([both(GREAT, TWO), both(TWO, GREAT), less(TWO, GREAT)], [EMPTY, EMPTY, TWO])
        self.assertEqual([is_within(GREAT, TWO), is_within(TWO, GREAT), is_within(HALF, GREAT)], [False, False, True])
        self.assertEqual([join(THIRD, THIRD), join(SOME, GREAT)], [THIRD, ("set", (), (*GREAT[2], "aaa"))])
        self.assertEqual([both(HALF, GREAT), both(GREAT, HALF), both(SOME, GREAT)], [HALF, HALF, made((), SOME[2][:200])])
        self.assertEqual(less(GREAT, SOME), made((), GREAT[2][200:]))
        self.assertEqual(less(SOME, GREAT), made((), ["aaa"]))
        self.assertEqual([firsts(GREAT), seconds(GREAT)], [made((), [ZERO]), made((), WORDS)])
        for call in (lambda: less(GREAT, TWO), lambda: join(GREAT, TWO), lambda: less(GREAT, HALF), lambda: join(HALF, SOME)):
            self.assertRaises(TooMany, call)

    def test_too_many_goes_by_orbits_over_the_joined_points(self):
        # 200 orbits over no points are 600 over one, and 201 of them 603.
        just, above = made((), GREAT[2][:200]), made((), GREAT[2][:201])
        pieces = made((ZERO,), [("row", at, WORDS[0]) for at in (ZERO, ONE)])
        self.assertEqual(join(just, pieces), just)
        self.assertRaises(TooMany, join, above, pieces)
        self.assertRaises(TooMany, join, pieces, above)
        self.assertEqual(less(just, pieces)[1], (ZERO,))
        self.assertRaises(TooMany, less, above, pieces)
        self.assertEqual(less(above, join(pieces, made((ZERO,), [("row", ONE, WORDS[1])])))[1], (ZERO,))
        self.assertEqual(both(GREAT, pieces), pieces)
        self.assertRaises(TooMany, both, above, with_a_point(above))
        self.assertEqual(both(just, with_a_point(just)), just)

    def test_members(self):
        for at in (0, 77, 499):
            self.assertTrue(is_in(("row", (7, 3), WORDS[at]), GREAT))
        self.assertFalse(is_in(("row", ZERO, "zzz"), GREAT))
        member, stranger = needed(HALF, ZERO)
        self.assertTrue(is_in(member, HALF))
        self.assertFalse(is_in(stranger, HALF))

    def test_steps(self):
        # Each of them took more than twice as many steps when told members were all placed and written anew.
        most = [(outside, GREAT, TWO, 30000), (many_pairs, GREAT, GREAT, 12000), (both, GREAT, TWO, 1500), (less, TWO, GREAT, 1500),
                (is_within, GREAT, TWO, 500), (outside, TWO, GREAT, 500), (outside, SOME, POINT, 12000), (join, THIRD, THIRD, 8000),
                (is_within, HALF, GREAT, 20000), (join, SOME, GREAT, 20000)]
        for function, one, other, bound in most:
            self.assertLess(steps(function, one, other), bound, function)


def with_a_point(many):
    """A set that has many's members, and has a point of its own."""
    return made((ZERO,), [*orbits(many, (ZERO,)), ONE])


class FirstOutside(unittest.TestCase):
    def check(self, one, other):
        points = joined_points(one, other)
        strange = [value for value in orbits(one, points) if not is_in(value, other)]
        self.assertEqual(outside(one, other), strange[0] if strange else None)
        self.assertEqual(is_within(one, other), not strange)
        texts = [value_text(value) for value in strange]
        self.assertEqual(texts, sorted(texts))

    def test_by_chance(self):
        chance = seeded(61)
        for _ in range(250):
            values = [some_value(chance, 2) for _ in range(chance.choice([1, 3, 6]))]
            one = made(some_points(chance, chance.choice([0, 1, 2])), values)
            other = some_set(chance, 2)
            if chance.random() < 0.6:
                other = made(some_points(chance, chance.choice([0, 1, 3])), [*values[1:], *other[2]])
            self.check(one, other)
            self.check(other, one)

    def test_numbers_whose_texts_begin_alike(self):
        rows = [("row", ONE, "a"), ("row", ONE), ("row", ONE, ONE), ONE, ("row", "a", ("row", "b", ONE)), ("set", (), ((0, 1),)),
                ("row", ("set", (ZERO,), (ONE,)), ONE), ("row", ONE, (2, 1)), ("row", (2, 1), "a", ONE)]
        for points in ((), (ZERO,), (ONE,), ((1, 2), ONE), ((1, 3), (1, 2), ONE), ((1, 1), (10, 1), (21, 2))):
            for others in ([(7, 1)], [("row", (1, 2), "a")], rows[:4], rows[4:]):
                for many in (rows, rows[:3], rows[3:4], rows[4:5], rows[5:]):
                    self.check(made((), many), made(points, others))
                    self.check(made((ONE,), many), made(points, others))


if __name__ == "__main__":
    unittest.main()
