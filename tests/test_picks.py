import unittest
from itertools import product

from gapwise.algebra import is_within
from gapwise.bars import barred_at, bars, fitting, intervals, pickable
from gapwise.codes import filled
from gapwise.errors import LineError, NotEnough, TooMany
from gapwise.making import EMPTY, LINE, is_in, made, orbits
from gapwise.maps import judge_map, value_at
from gapwise.picks import enough, judge_pick, pick, picked, plenty
from gapwise.placing import are_alike
from gapwise.points import is_before, merged_points
from gapwise.products import firsts, seconds
from gapwise.values import support
from tests.helping import seeded, some_points
from tests.relations import HALF, ONE, THREE, TWO, ZERO, further, some_part, values_on

ABOVE = made((), [("row", ZERO, ONE)])
UNLIKE = made((), [("row", ZERO, ONE), ("row", ONE, ZERO)])
SIGNS = made((ZERO,), [("row", (-1, 1), ONE)])
LETTERS = "abcdefghijklmnopqrstuvwxyz"
WORDS = [a + b for a in LETTERS for b in LETTERS]


def further_places(points, x, y):
    """For each further point of y its gap and interval, by counting."""
    held = support(x)
    found = []
    for point in support(y):
        if point in points or point in held:
            continue
        gap = len([one for one in points if is_before(one, point)])
        inner = [one for one in held if one not in points and len([low for low in points if is_before(low, one)]) == gap]
        found.append((gap, len([one for one in inner if is_before(one, point)])))
    return found


def all_choices(points, x):
    return list(product(*[range(many) for many in intervals(points, x)]))


def some_rows(chance):
    """A set of rows of two as callers may pass it, small."""
    if chance.random() < 0.6:
        points, most = some_points(chance, chance.choice([0, 1])), 2
    else:
        points, most = some_points(chance, chance.choice([1, 2, 3])), 1
    rows = []
    for _ in range(chance.choice([1, 2, 3, 6])):
        rows.append(("row", some_part(chance, most), some_part(chance, most)))
        if chance.random() < 0.5:
            rows.append(("row", rows[-1][1], some_part(chance, most)))
    return made(points, rows)


def ys_for(R, x, points):
    """All y for x with their points among points."""
    return [y for y in values_on([row[2] for row in R[2]], points) if is_in(("row", x, y), R)]


class Bars(unittest.TestCase):
    def test_intervals(self):
        self.assertEqual([intervals((), "a"), intervals((), (7, 1)), intervals((ZERO,), ("row", ONE, TWO, ZERO))], [(1,), (2,), (1, 3)])
        self.assertEqual(intervals((ZERO, TWO), ("row", ONE, TWO, HALF, (-1, 1))), (2, 3, 1))
        self.assertEqual(intervals((ZERO,), made((ZERO, ONE), [HALF])), (1, 2))

    def test_fitting(self):
        self.assertIsNone(fitting(ABOVE, ZERO, (0,)))
        self.assertTrue(is_before((5, 1), fitting(ABOVE, (5, 1), (1,))))
        self.assertTrue(is_before(fitting(UNLIKE, (5, 1), (0,)), (5, 1)))
        self.assertEqual(fitting(made((), [("row", ZERO, "a"), ("row", ZERO, ("row", ONE, ZERO))]), THREE, (0,)), "a")
        split = made((), [("row", ONE, ("row", ZERO, TWO))])
        self.assertEqual([fitting(split, ONE, (0,)), fitting(split, ONE, (1,))], [None, None])
        inner = made((), [("row", ("row", ZERO, THREE), ("row", TWO, ONE))])
        x = ("row", (10, 1), (11, 1))
        y = fitting(inner, x, (1,))
        self.assertTrue(is_in(("row", x, y), inner))
        self.assertEqual(y[0], "row")
        self.assertTrue(is_before((10, 1), y[2]) and is_before(y[1], (11, 1)))
        self.assertEqual([fitting(inner, x, (0,)), fitting(inner, x, (2,))], [None, None])

    def check(self, R):
        """Bars, what fits and what is pickable, by all choices and by values on a fine sample."""
        points, expected, free = R[1], [], []
        for x in orbits(firsts(R), points):
            ys = ys_for(R, x, further(merged_points(points, support(x)), 2))
            count = len(expected)
            for choice in all_choices(points, x):
                fits = [y for y in ys if all(choice[gap] == interval for gap, interval in further_places(points, x, y))]
                told = fitting(R, x, choice)
                self.assertEqual(told is None, not fits, (R, x, choice))
                if told is None:
                    expected.append(("bar", x, choice))
                else:
                    self.assertTrue(is_in(("row", x, told), R))
                    self.assertTrue(all(choice[gap] == interval for gap, interval in further_places(points, x, told)))
            if len(expected) == count:
                free.append(x)
        self.assertEqual(bars(R), expected)
        self.assertEqual(pickable(R), made(points, free))
        return expected

    def test_known_bars(self):
        self.assertEqual([bars(ABOVE), bars(UNLIKE), bars(EMPTY)], [[("bar", ZERO, (0,))], [], []])
        self.assertEqual([pickable(ABOVE), pickable(UNLIKE), pickable(SIGNS), pickable(EMPTY)], [EMPTY, LINE, made((ZERO,), [(-1, 1)]), EMPTY])
        both = made((), [("row", ("row", ZERO, ONE), TWO)])
        self.assertEqual(self.check(both), [("bar", ("row", ZERO, ONE), (0,)), ("bar", ("row", ZERO, ONE), (1,))])
        mixed = made((), [("row", ZERO, ONE), ("row", "a", ZERO), ("row", ("row", ZERO), ZERO)])
        self.assertEqual(self.check(mixed), [("bar", ZERO, (0,))])
        self.assertEqual(pickable(mixed), made((), ["a", ("row", ZERO)]))
        beside = made((ZERO,), [("row", ONE, TWO)])
        self.assertEqual(self.check(beside), [("bar", ONE, (0, 0))])
        two_gaps = made((ZERO,), [("row", ("row", (-1, 1), ONE), ("row", (-2, 1), TWO))])
        self.assertEqual(self.check(two_gaps), [("bar", ("row", (-1, 1), ONE), choice) for choice in ((0, 0), (1, 0), (1, 1))])

    def test_by_chance(self):
        chance, barred = seeded(151), 0
        for _ in range(250):
            barred += bool(self.check(some_rows(chance)))
        self.assertGreater(barred, 60)
        self.assertLess(barred, 220)

    def test_barred_at_over_three_points(self):
        points, done = (ZERO, ONE, TWO), 0
        for own in ((-1, 1), HALF, (3, 2), THREE):
            for held in points:
                x = ("row", held, own)
                for far in ((-2, 1), (1, 3), (5, 4), (5, 1)):
                    R = made(points, [("row", x, ("row", far, held)), *[("row", "a", ("row", at, far)) for at in points]])
                    self.assertEqual(R[1], points)
                    done += len(bars(R))
                    for bar in bars(R):
                        beside = ((-9, 1), ZERO, (1, 4), (3, 4), (6, 5), (9, 5), (7, 1))
                        found = barred_at(R, bar, beside)
                        self.assertTrue(are_alike(points, found, bar[1]))
                        self.assertEqual(ys_for(R, found, merged_points(merged_points(points, beside), support(found))), [])
        self.assertGreater(done, 10)

    def test_barred_at(self):
        chance = seeded(152)
        done = 0
        for _ in range(200):
            R = some_rows(chance)
            for bar in bars(R)[:4]:
                points = some_points(chance, chance.choice([0, 1, 3, 6]))
                x = barred_at(R, bar, points)
                done += 1
                self.assertTrue(are_alike(R[1], x, bar[1]))
                self.assertEqual(ys_for(R, x, merged_points(merged_points(R[1], points), support(x))), [])
        self.assertGreater(done, 100)
        self.assertTrue(is_before((9, 1), barred_at(ABOVE, ("bar", (40, 7), (0,)), tuple((k, 1) for k in range(10)))))


class Enough(unittest.TestCase):
    def check(self, R, points):
        together = merged_points(R[1], points)
        lacking = [x for x in orbits(firsts(R), together) if not ys_for(R, x, merged_points(together, support(x)))]
        told = enough(R, points)
        self.assertEqual(told, lacking[0] if lacking else None, (R, points))
        if lacking:
            with self.assertRaises(NotEnough) as caught:
                picked(R, points)
            self.assertEqual(caught.exception.value, lacking[0])
            return told
        self.check_picked(R, picked(R, points), together)
        return told

    def check_picked(self, R, many, together):
        self.assertTrue(is_within(many, R))
        self.assertIsNone(judge_map(many, firsts(R), seconds(R)))
        self.assertLessEqual(set(many[1]), set(together))
        for x in orbits(firsts(R), together):
            self.assertLessEqual(set(support(value_at(many, x))), set(together) | set(support(x)))

    def test_known_ones(self):
        self.assertEqual([self.check(ABOVE, ((5, 1),)), self.check(UNLIKE, (ZERO,)), self.check(UNLIKE, (ZERO, ONE))], [(5, 1), ZERO, None])
        self.assertEqual([self.check(ABOVE, ()), self.check(EMPTY, ()), self.check(EMPTY, (ONE,))], [ZERO, None, None])
        self.assertEqual(self.check(SIGNS, (ONE,)), None)
        self.assertEqual(self.check(SIGNS, (ZERO, ONE)), None)
        self.assertEqual(self.check(SIGNS, ((-1, 1), ZERO)), (-1, 1))
        self.assertEqual(picked(SIGNS, (ONE,)), ("set", (ZERO, ONE), (("row", (-1, 1), ONE),)))
        around = made((), [("row", ONE, ("row", ZERO, TWO)), ("row", ONE, ("row", ZERO, (1, 2))), ("row", ONE, ("row", TWO, THREE))])
        self.assertEqual(self.check(around, (ZERO, ONE)), ZERO)
        self.assertIsNone(self.check(around, (ZERO, ONE, TWO)))
        sets = made((), [("row", made((ONE,), [TWO]), ZERO), ("row", made((ONE,), [TWO]), TWO)])
        self.assertEqual(self.check(sets, (ZERO,)), made((ZERO,), [ONE]))
        self.assertIsNone(self.check(sets, (ZERO, ONE)))
        constant = made((), [("row", ZERO, "a"), ("row", ZERO, "b"), ("row", ZERO, ONE)])
        self.assertIsNone(self.check(constant, ()))
        self.assertEqual(len(orbits(picked(constant, ()), ())), 1)

    def test_by_chance(self):
        chance, none = seeded(153), 0
        for _ in range(250):
            R = some_rows(chance)
            none += self.check(R, some_points(chance, chance.choice([0, 1, 2, 4]))) is None
        self.assertGreater(none, 60)

    def test_more_points_stay_enough(self):
        chance = seeded(154)
        for _ in range(120):
            R, points = some_rows(chance), some_points(chance, 3)
            if enough(R, points) is None:
                self.assertIsNone(enough(R, merged_points(points, some_points(chance, 3))))

    def test_plenty(self):
        self.assertEqual([plenty(ABOVE), plenty(UNLIKE), plenty(EMPTY), plenty(SIGNS)], [(2,), (2,), (0,), (0, 1)])
        self.assertEqual(plenty(made((), [("row", ("row", ZERO, ONE), ("row", TWO, THREE))])), (3 * 1 + 1 + 2,))
        self.assertEqual(plenty(made((), [("row", ("row", ZERO, ONE), "a"), ("row", "a", ("row", TWO, THREE))])), (6,))
        self.assertEqual(plenty(made((ZERO,), [("row", ("row", ONE, TWO), ("row", (-1, 1), THREE))])), (1, 3))
        self.assertEqual(plenty(made((), [("row", ("row", ZERO, ONE), ZERO)])), (0,))
        self.assertEqual(plenty(made((), [("row", "a", ("row", ZERO, ONE))])), (2,))

    def test_pick(self):
        chance, seen = seeded(155), set()
        for _ in range(250):
            R = some_rows(chance)
            paper = pick(R)
            seen.add(paper[0])
            self.assertIsNone(judge_pick(R, paper))
            if paper[0] == "bar":
                self.assertIn(paper, bars(R))
                continue
            self.assertEqual(bars(R), [])
            counts = [0] * (len(R[1]) + 1)
            for point in paper[1]:
                self.assertNotIn(point, R[1])
                counts[len([one for one in R[1] if is_before(one, point)])] += 1
            self.assertTrue(all(many <= most for many, most in zip(counts, plenty(R))))
            if len(paper[1]) <= 4:
                self.check(R, paper[1])
        self.assertEqual(seen, {"bar", "points"})

    def test_too_many(self):
        many = made((), [("row", ("row", word, ZERO), "a") for word in WORDS[:201]])
        two = made((), many[2][:200])
        self.assertEqual(len(orbits(picked(two, (ONE,)), (ONE,))), 600)
        self.assertRaises(TooMany, picked, many, (ONE,))
        self.assertIsNone(enough(many, (ONE,)))
        self.assertEqual(len(picked(many, ())[2]), 201)
        # It goes ahead of NotEnough, also where the points are not enough.
        lacking = made((), [*many[2], ("row", "b", ONE)])
        self.assertRaises(TooMany, picked, lacking, (ONE,))
        with self.assertRaises(NotEnough) as caught:
            picked(lacking, ())
        self.assertIsInstance(caught.exception, LineError)
        self.assertEqual(caught.exception.value, "b")

    def test_600_told_members_and_twelve_points(self):
        wide = made((), [("row", ("row", word, ZERO, THREE), ("row", y, TWO)) for word in WORDS[:200] for y in (ONE, (-1, 1), (4, 1))])
        self.assertEqual(len(wide[2]), 600)
        self.assertEqual(plenty(wide), (6,))
        self.assertEqual(len(bars(wide)), 400)
        self.assertEqual(enough(wide, tuple((k, 1) for k in range(10))), orbits(made((), [("row", "aa", ZERO, THREE)]), tuple((k, 1) for k in range(10)))[0])
        free = made((ZERO,), [("row", ("row", word, ONE, TWO), ("row", one, other)) for word in WORDS[:100] for one, other in ((HALF, (1, 3)), ((-1, 1), (-2, 1)), ((-1, 1), THREE))])
        points = ("points", filled(free[1], (6, 6)))
        self.assertIsNone(judge_pick(free, points))


class JudgePick(unittest.TestCase):
    def test_forms(self):
        gaps = ("bar", ONE, (0,))
        for value in (None, 3, True, "points", (), ("points",), ("points", [ZERO]), ("points", (ONE, ZERO)), ("points", (ZERO, ZERO)), ("points", ((2, 2),)), ("points", ZERO), ("points", (ZERO,), ()),
                      ["points", (ZERO,)], ("point", (ZERO,)), ("bar", ONE), ("bar", ONE, (0,), ()), ("bar", ONE, 0), ("bar", ONE, [0]), ("bar", ONE, ()), ("bar", ONE, (0, 0)), ("bar", ONE, (True,)),
                      ("bar", ONE, (False,)), ("bar", ONE, ("a",)), ("bar", [1, 1], (0,)), ("bar", (2, 2), (0,)), ("bar", "A", (0,)), ("bar", ("set", (ZERO,), ()), (0,)), ("bar", None, (0,)),
                      ("bar", ("row", ("row", ("row", ("row", ("row", "a"))))), (0,)), {"points": ()}, ([], (0,)), (["points"], ()), [gaps], (gaps,)):
            self.assertEqual(judge_pick(ABOVE, value), ("form",), value)
        self.assertEqual(judge_pick(SIGNS, ("bar", (-1, 1), (0,))), ("form",))

    def test_points(self):
        self.assertEqual([judge_pick(ABOVE, ("points", ())), judge_pick(ABOVE, ("points", ((5, 1),)))], [("lacks", ZERO), ("lacks", (5, 1))])
        self.assertIsNone(judge_pick(UNLIKE, ("points", (ZERO, ONE))))
        self.assertIsNone(judge_pick(UNLIKE, ("points", tuple((k, 1) for k in range(12)))))
        self.assertEqual(judge_pick(UNLIKE, ("points", (ZERO,))), ("lacks", ZERO))
        self.assertIsNone(judge_pick(EMPTY, ("points", ())))

    def test_bars(self):
        self.assertIsNone(judge_pick(ABOVE, ("bar", (9, 4), (0,))))
        self.assertEqual(judge_pick(ABOVE, ("bar", "a", (5,))), ("first",))
        self.assertEqual(judge_pick(EMPTY, ("bar", "a", (0,))), ("first",))
        for number in (2, -1, 10 ** 39):
            self.assertEqual(judge_pick(ABOVE, ("bar", ONE, (number,))), ("choice", 0))
        word, y = judge_pick(ABOVE, ("bar", ONE, (1,)))
        self.assertEqual(word, "fits")
        self.assertTrue(is_before(ONE, y))
        beside = made((ZERO,), [("row", ONE, TWO)])
        self.assertEqual(judge_pick(beside, ("bar", (-1, 1), (9, 9))), ("first",))
        self.assertEqual(judge_pick(beside, ("bar", ONE, (1, 9))), ("choice", 0))
        self.assertEqual(judge_pick(beside, ("bar", ONE, (0, 2))), ("choice", 1))
        self.assertEqual(judge_pick(beside, ("bar", ONE, (0, 1)))[0], "fits")
        self.assertIsNone(judge_pick(beside, ("bar", ONE, (0, 0))))

    def test_bent_papers(self):
        chance, seen = seeded(156), set()
        for _ in range(400):
            R = some_rows(chance)
            paper = pick(R)
            if paper[0] == "points":
                bent = ("points", tuple(point for point in paper[1] if chance.random() < 0.6))
                told = judge_pick(R, bent)
                self.assertEqual(told, None if enough(R, bent[1]) is None else ("lacks", enough(R, bent[1])))
            else:
                x = chance.choice([paper[1], some_part(chance, 1)])
                bent = ("bar", x, tuple(chance.choice([number, number, 0, 1, 2]) for number in paper[2]))
                told = judge_pick(R, bent)
                parts = intervals(R[1], x)
                wrong = [gap for gap in range(len(parts)) if bent[2][gap] >= parts[gap]]
                if not is_in(x, firsts(R)):
                    self.assertEqual(told, ("first",))
                elif wrong:
                    self.assertEqual(told, ("choice", wrong[0]))
                elif fitting(R, x, bent[2]) is None:
                    self.assertIsNone(told)
                else:
                    self.assertEqual(told[0], "fits")
                    self.assertTrue(is_in(("row", x, told[1]), R))
            seen.add(told and told[0])
        self.assertEqual(seen, {None, "lacks", "first", "choice", "fits"})


if __name__ == "__main__":
    unittest.main()
