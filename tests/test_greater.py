import unittest

from gapwise.algebra import is_within, joined_points
from gapwise.errors import BadSize, LineError, TooMany
from gapwise.greater import as_great, into, into_map, order, standard
from gapwise.making import EMPTY, LINE, made, orbits
from gapwise.placing import shape
from gapwise.points import merged_points, spread
from gapwise.products import firsts, seconds
from gapwise.reading import check_value
from gapwise.samples import all_on, count
from gapwise.sizes import Size, size_of
from gapwise.values import depth, value_text
from tests.helping import ascending, seeded, some_points, some_set

ZERO, HALF, ONE, TWO, THREE = (0, 1), (1, 2), (1, 1), (2, 1), (3, 1)
PAIRS = made((), [("row", ZERO, ONE)])
ANY_PAIRS = made((), [("row", ZERO, ONE), ("row", ONE, ZERO), ("row", ZERO, ZERO)])
ABOVE, BELOW = made((ZERO,), [ONE]), made((ZERO,), [(-1, 1)])
LETTERS = "abcdefghijklmnopqrstuvwxyz"
WORDS = [a + b + c for a in "ab" for b in LETTERS for c in LETTERS]


def named(many, *points):
    """So many orbits of rows of a word and these points."""
    return made((), [("row", word, *points) for word in WORDS[:many]])


def further(points, many):
    """The points, and so many in each gap."""
    found = points
    for gap in range(len(points) + 1):
        found = merged_points(found, tuple(spread(points, gap, many)))
    return found


def lacking_shapes(one, other, points):
    """The shapes that more of one's orbits over points have."""
    ones, others = [[shape(value, points) for value in orbits(many, points)] for many in (one, other)]
    return sorted({counts for counts in ones if ones.count(counts) > others.count(counts)})


class Check(unittest.TestCase):
    def check_map(self, rows, one, other, points):
        """It leads each member of one to a member of other, no two of them to one."""
        check_value(rows)
        self.assertLessEqual(set(rows[1]), set(points))
        self.assertEqual(firsts(rows), one)
        self.assertTrue(is_within(seconds(rows), other))
        sample = further(points, 2)
        if count(rows, sample) < 3000:
            found = all_on(rows, sample)
            lefts, rights = [value_text(row[1]) for row in found], [value_text(row[2]) for row in found]
            self.assertEqual(sorted(lefts), sorted(value_text(value) for value in all_on(one, sample)))
            self.assertEqual(len(set(lefts)), len(lefts))
            self.assertEqual(len(set(rights)), len(rights))
        # No member of one stands twice, at whatever place, if no orbit does and none has points that the other part lacks.
        for row in orbits(rows, points):
            self.assertEqual(shape(row, points), shape(row[1], points))
            self.assertEqual(shape(row, points), shape(row[2], points))
        self.assertEqual(len(orbits(rows, points)), len(orbits(one, points)))
        self.assertEqual(len(orbits(seconds(rows), points)), len(orbits(one, points)))


class AsGreat(Check):
    def check(self, one, other):
        points = joined_points(one, other)
        told = as_great(one, other)
        self.assertEqual(told[0] == "same", size_of(one, points) == size_of(other, points))
        if told[0] == "same":
            self.check_map(told[1], one, other, points)
            self.assertEqual(seconds(told[1]), other)
            return told
        sample = told[1]
        self.assertNotEqual(count(one, sample), count(other, sample))
        self.check_least_sample(one, other, points, len(sample) - len(points))
        return told

    def check_least_sample(self, one, other, points, extra):
        left, right = size_of(one, points), size_of(other, points)
        rows = [()]
        for _ in range(len(points) + 1):
            rows = [(*row, k) for row in rows for k in range(extra)]
        for row in rows:
            if sum(row) < extra:
                self.assertEqual(left(row), right(row))

    def test_known_ones(self):
        self.assertEqual(self.check(LINE, LINE)[0], "same")
        self.assertEqual(self.check(made((), [ZERO, "a"]), LINE), ("sample", ()))
        self.assertEqual(self.check(EMPTY, EMPTY), ("same", EMPTY))
        self.assertEqual(len(self.check(PAIRS, EMPTY)[1]), 2)
        self.assertEqual(len(self.check(ABOVE, BELOW)[1]), 2)
        self.assertEqual(self.check(made((), ["a", "b"]), made((), ["c", LINE]))[0], "same")
        self.assertEqual(self.check(made((), [("row", ZERO, ONE), ("row", ONE, ZERO)]), named(2, ZERO, ONE))[0], "same")
        self.assertEqual(self.check(made((), [("set", (ZERO,), (ONE,))]), LINE)[0], "same")
        # A line without a point and a point more: as great as the line over its point, with no point at all it is not.
        self.assertEqual(self.check(made((ZERO,), [(-1, 1), ONE, "a"]), LINE)[0], "same")
        self.assertEqual(self.check(made((ZERO,), [(-1, 1), ONE]), LINE), ("sample", (ZERO,)))
        self.assertEqual(self.check(made((ZERO,), [("row", ONE, TWO)]), made((ZERO,), [("row", (-2, 1), (-1, 1))]))[0], "sample")

    def test_by_chance(self):
        chance, same = seeded(121), 0
        for _ in range(300):
            one, other = some_set(chance, 2), some_set(chance, 2)
            if chance.random() < 0.4:
                other = made(one[1], [("row", value, "a") for value in one[2]])
            if max(depth(one), depth(other)) <= 3:
                same += self.check(one, other)[0] == "same"
        self.assertGreater(same, 60)

    def test_too_many(self):
        self.assertEqual(len(as_great(named(600, ZERO), named(600, ONE))[1][2]), 600)
        self.assertRaises(TooMany, as_great, named(601, ZERO), named(601, ZERO))
        self.assertRaises(TooMany, as_great, made((ZERO,), [("row", word, ONE) for word in WORDS[:601]]), made((ZERO,), [("row", word, ONE, ONE) for word in WORDS[:601]]))
        self.assertEqual(as_great(named(700, ZERO), named(601, ZERO)), ("sample", (ZERO,)))
        # 201 orbits over no points are 603 over one.
        for many, error in ((200, None), (201, TooMany)):
            spoiled = made((ZERO,), [*[row for row in orbits(named(many, ZERO), (ZERO,)) if row != ("row", "aaa", ZERO)], "a"])
            self.assertEqual(spoiled[1], (ZERO,))
            if error:
                self.assertRaises(TooMany, as_great, named(many, ZERO), spoiled)
            else:
                self.assertEqual(len(orbits(as_great(named(many, ZERO), spoiled)[1], (ZERO,))), 600)

    def test_six_points(self):
        points = tuple((k, 1) for k in range(6))
        one = made(points[:3], [("row", HALF, (3, 2)), (7, 1), ("row", (-1, 1))])
        other = made(points[3:], [("row", (7, 2), (9, 2)), (7, 1), ("row", (-1, 1))])
        self.check(one, other)
        self.check(one, made(points[:3], [("row", (3, 2), HALF), ("row", (7, 1)), (-1, 1)]))


class IntoMap(Check):
    def check(self, one, other, points):
        together = merged_points(joined_points(one, other), points)
        told = into_map(one, other, points)
        lacking = lacking_shapes(one, other, together)
        if lacking:
            self.assertEqual(told[0], "more")
            self.assertIn(told[1], lacking)
        else:
            self.assertEqual(told[0], "map")
            self.check_map(told[1], one, other, together)
        return told

    def test_known_ones(self):
        self.assertEqual(self.check(LINE, PAIRS, (ZERO,)), ("more", (0, 0)))
        self.assertEqual(self.check(LINE, PAIRS, (ZERO, ONE, TWO))[0], "map")
        self.assertEqual(self.check(LINE, PAIRS, ()), ("more", (1,)))
        self.assertEqual(self.check(PAIRS, ANY_PAIRS, ())[0], "map")
        self.assertEqual(self.check(EMPTY, LINE, ()), ("map", EMPTY))
        self.assertEqual(self.check(made((), ["a"]), LINE, ()), ("more", (0,)))
        self.assertEqual(self.check(made((), ["a"]), LINE, (ONE,)), ("map", made((ONE,), [("row", "a", ONE)])))
        self.assertEqual(self.check(ABOVE, BELOW, (TWO,))[0], "more")

    def test_by_chance(self):
        chance, mapped = seeded(122), 0
        for _ in range(250):
            one, other = some_set(chance, 1), some_set(chance, 2)
            if chance.random() < 0.5:
                other = made(joined_points(one, other), [*[("row", value) for value in one[2]], *other[2]])
            mapped += self.check(one, other, some_points(chance, chance.choice([0, 1, 2])))[0] == "map"
        self.assertGreater(mapped, 80)

    def test_too_many_goes_ahead_of_either(self):
        self.assertEqual(into_map(named(600, ZERO), named(600, ZERO), ())[0], "map")
        self.assertRaises(TooMany, into_map, named(601, ZERO), named(601, ZERO), ())
        self.assertRaises(TooMany, into_map, named(601, ZERO), EMPTY, ())
        self.assertRaises(TooMany, into_map, named(201, ZERO), LINE, (ZERO,))
        self.assertEqual(into_map(named(200, ZERO), LINE, (ZERO,))[0], "more")
        self.assertEqual(into_map(LINE, named(700, ZERO), ())[0], "map")


class Into(Check):
    def check(self, one, other):
        points = joined_points(one, other)
        told = into(one, other)
        more = size_of(other, points) - size_of(one, points)
        if not size_of(one, points).at_most(size_of(other, points)):
            self.assertEqual(told[0], "never")
            self.assertIn(told[1], [counts for counts, number in more.greatest() if number < 0])
            return told
        self.assertEqual(told[0], "into")
        if told[1] <= 4 and len(points) < 2:
            self.check_map(into_map(one, other, further(points, told[1]))[1], one, other, further(points, told[1]))
            if told[1]:
                self.assertEqual(into_map(one, other, further(points, told[1] - 1))[0], "more")
        elif len(points) < 2:
            finer = [self.finest(more, many) for many in (told[1] - 1, told[1])]
            self.assertEqual([all(number >= 0 for _, number in size.terms) for size in finer], [False, True])
        return told

    def finest(self, size, many):
        """The size with so many new points in each gap."""
        for gap in reversed(range(size.gaps)):
            for _ in range(many):
                size = size.finer(gap)
        return size

    def test_known_ones(self):
        self.assertEqual([self.check(LINE, PAIRS), self.check(PAIRS, LINE), self.check(LINE, LINE)], [("into", 3), ("never", (2,)), ("into", 0)])
        self.assertEqual([self.check(ABOVE, BELOW), self.check(EMPTY, LINE), self.check(EMPTY, EMPTY)], [("never", (0, 1)), ("into", 0), ("into", 0)])
        self.assertEqual(self.check(made((), ["a", "b"]), LINE), ("into", 2))
        self.assertEqual(self.check(named(5, ZERO), PAIRS), ("into", 11))
        self.assertEqual(self.check(made((), ["a"]), ABOVE), ("into", 1))
        self.assertEqual(self.check(made((), ["a"]), made((ZERO,), [("row", (-1, 1), ONE)])), ("into", 1))
        self.assertEqual(self.check(made((), ["a", "b"]), made((ZERO,), [("row", (-1, 1), ONE)])), ("into", 2))
        self.assertEqual(into(named(3, ZERO), PAIRS), ("into", 7))

    def test_by_chance(self):
        chance, gone = seeded(123), 0
        for _ in range(200):
            one, other = some_set(chance, 1), some_set(chance, 1)
            if chance.random() < 0.6:
                other = made(other[1], [("row", value, (9, 4)) for value in other[2]])
            gone += self.check(one, other)[0] == "into"
        self.assertGreater(gone, 80)

    def test_great_numbers(self):
        self.assertEqual(into(named(700, ZERO), PAIRS), ("into", 2 * 700 + 1))
        fours, threes = made((), [("row", *[(k, 1) for k in range(4)])]), named(699, ZERO, ONE, TWO)
        self.assertEqual(into(threes, fours), ("into", 4 * 699 + 3))
        self.assertEqual(into(fours, threes), ("never", (4,)))
        points = tuple((k, 1) for k in range(6))
        one = made(points, [("row", word, HALF, (3, 2)) for word in WORDS[:300]])
        other = made(points, [("row", HALF, (3, 2), (5, 2)), (7, 1)])
        self.assertEqual(into(one, other)[0], "into")


class Order(unittest.TestCase):
    def test_order(self):
        self.assertEqual([order(PAIRS, LINE), order(LINE, PAIRS), order(LINE, LINE), order(ANY_PAIRS, PAIRS), order(EMPTY, EMPTY)], [1, -1, 0, 1, 0])
        self.assertEqual([order(made((), ["a"]), EMPTY), order(made((), ["a", "b"]), made((), ["c"])), order(made((), ["a"]), LINE)], [1, 1, -1])
        self.assertEqual(order(made((), ["a", "b", ZERO]), LINE), 1)
        self.assertEqual(order(made((), [("row", ZERO, ONE), ("row", ONE, ZERO)]), made((), [("row", ZERO, ONE, "a"), ("row", "b", ZERO, ONE)])), 0)
        self.assertEqual(order(named(700, ZERO), PAIRS), -1)

    def test_by_chance(self):
        chance = seeded(124)
        for _ in range(150):
            one, other = [made((), some_set(chance, 1)[2]) for _ in range(2)]
            told, back = order(one, other), order(other, one)
            self.assertEqual(told, -back)
            self.assertEqual(told == 0, as_great(one, other)[0] == "same")
            if told:
                self.assertEqual(told == 1, into(other, one)[0] == "into" and into(one, other)[0] == "never")


class Standard(unittest.TestCase):
    def test_known_ones(self):
        self.assertEqual(standard((), Size(1, [((1,), 2)])), made((), [("row", "a", ZERO), ("row", "b", ZERO)]))
        self.assertEqual(standard((), Size(1, [])), EMPTY)
        self.assertEqual(standard((ZERO,), Size(2, [((0, 0), 1), ((1, 2), 1), ((0, 1), 2)])),
                         made((ZERO,), [("row", "a"), ("row", "b", ONE), ("row", "c", ONE), ("row", "d", (-1, 1), ONE, TWO)]))
        many = standard((), Size(1, [((0,), 28), ((1,), 1)]))
        self.assertEqual([row[1] for row in many[2] if len(row) == 2 and len(row[1]) == 2], ["ba", "bb"])
        self.assertIn(("row", "z"), many[2])
        self.assertIn(("row", "bc", ZERO), many[2])
        self.assertEqual(len(many[2]), 29)
        self.assertIn(("row", "xb"), standard((), Size(1, [((0,), 600)]))[2])
        self.assertEqual(len(standard((), Size(1, [((0,), 600)]))[2]), 600)

    def test_it_has_the_size(self):
        chance = seeded(125)
        for _ in range(150):
            points = some_points(chance, chance.choice([0, 1, 2, 3]))
            terms = []
            for _ in range(chance.choice([0, 1, 2, 4])):
                counts = [0] * (len(points) + 1)
                for _ in range(chance.choice([0, 1, 2, 3])):
                    counts[chance.randrange(len(counts))] += 1
                terms.append((tuple(counts), chance.choice([1, 2, 5, 30])))
            size = Size(len(points) + 1, terms)
            many = standard(points, size)
            check_value(many)
            self.assertLessEqual(set(many[1]), set(points))
            self.assertEqual(size_of(many, points), size)
            if many[1] == points:
                numbers = [0] * (len(points) + 1)
                self.assertEqual(count(many, ascending(points)), size(numbers))

    def test_bad_ones(self):
        for terms in ([((1,), -1)], [((0,), 700), ((1,), -1)], [((4,), 1)], [((0,), 1000), ((4,), 1)], [((10 ** 30,), 1)]):
            with self.assertRaises(BadSize) as caught:
                standard((), Size(1, terms))
            self.assertIsInstance(caught.exception, LineError)
        self.assertRaises(BadSize, standard, (ZERO,), Size(2, [((2, 2), 1)]))
        for terms in ([((0,), 601)], [((1,), 300), ((2,), 301)], [((3,), 10 ** 30)]):
            self.assertRaises(TooMany, standard, (), Size(1, terms))
        self.assertEqual(len(standard((), Size(1, [((1,), 300), ((3,), 300)]))[2]), 600)


if __name__ == "__main__":
    unittest.main()
