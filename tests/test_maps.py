import unittest

from gapwise.algebra import join, joined_points, less
from gapwise.errors import NoMember, NotThere, TooMany
from gapwise.making import EMPTY, LINE, is_in, made, orbits
from gapwise.maps import back, identity, image, judge_map, one_to_one, onto, then, value_at
from gapwise.placing import moved
from gapwise.points import merged_points
from gapwise.products import firsts, pairs, seconds
from gapwise.reading import check_value
from gapwise.values import support
from tests.helping import ascending, seeded, some_points
from tests.relations import HALF, ONE, THREE, TWO, ZERO, further, some_map, some_pairs, some_part, some_set_of_parts, values_on

CUT = made((ZERO,), [("row", (-1, 1), ZERO), ("row", ZERO, ZERO), ("row", ONE, ONE)])
LESS = made((), [("row", ZERO, ONE)])
ALL_LESS = made((), [("row", ZERO, ONE), ("row", ZERO, ZERO)])
ABOVE = made((ZERO,), [ONE])
LETTERS = "abcdefghijklmnopqrstuvwxyz"
WORDS = [a + b for a in LETTERS for b in LETTERS]


class JudgeMap(unittest.TestCase):
    def check(self, many, one, other):
        """The fault that is told is one, and none ahead of it applies."""
        told = judge_map(many, one, other)
        strange = [value for value in many[2] if not (isinstance(value, tuple) and value[0] == "row" and len(value) == 3)]
        if strange:
            self.assertEqual(told[0], "pairs")
            self.assertTrue(is_in(told[1], many))
            self.assertFalse(isinstance(told[1], tuple) and told[1][0] == "row" and len(told[1]) == 3)
            return told
        if less(one, firsts(many)) != EMPTY:
            self.assertEqual(told[0], "lacks")
            self.assertTrue(is_in(told[1], one) and not is_in(told[1], firsts(many)))
            return told
        if not self.is_map(many):
            word, x, y, z = told
            self.assertEqual(word, "twice")
            self.assertNotEqual(y, z)
            self.assertTrue(is_in(("row", x, y), many) and is_in(("row", x, z), many))
            return told
        if less(firsts(many), one) != EMPTY or less(seconds(many), other) != EMPTY:
            word, x, y = told
            self.assertEqual(word, "outside")
            self.assertTrue(is_in(("row", x, y), many))
            self.assertFalse(is_in(x, one) and is_in(y, other))
            return told
        self.assertIsNone(told)
        return told

    def is_map(self, many):
        """By its members on a fine sample."""
        sample = further(further(many[1], 2), 1)
        table = {}
        for x in values_on([row[1] for row in many[2]], further(many[1], 2)):
            ys = [y for y in values_on([row[2] for row in many[2]], sample) if is_in(("row", x, y), many)]
            table[x] = len(ys)
        return all(number <= 1 for number in table.values())

    def test_known_ones(self):
        self.assertIsNone(self.check(CUT, LINE, LINE))
        self.assertIsNone(self.check(EMPTY, EMPTY, LINE))
        self.assertEqual(self.check(LINE, EMPTY, EMPTY)[0], "pairs")
        self.assertEqual(self.check(made((), ["a", ("row", ZERO, ONE)]), LINE, LINE), ("pairs", "a"))
        for strange in (("row", "a"), ("row", ZERO, ZERO, ZERO), "a", ZERO, LINE):
            self.assertEqual(self.check(join(CUT, made((), [strange])), EMPTY, EMPTY)[0], "pairs")
        self.assertEqual(self.check(made((ZERO,), [("row", ONE, ONE)]), LINE, LINE)[0], "lacks")
        self.assertEqual(self.check(LESS, EMPTY, EMPTY)[0], "twice")
        self.assertEqual(self.check(LESS, made((), ["a"]), EMPTY), ("lacks", "a"))
        self.assertEqual(self.check(CUT, ABOVE, LINE)[0], "outside")
        self.assertEqual(self.check(CUT, LINE, ABOVE)[0], "outside")
        self.assertEqual(self.check(made((), [("row", ZERO, "a"), ("row", ZERO, "b")]), LINE, EMPTY)[0], "twice")
        self.assertEqual(self.check(made((ZERO,), [("row", ONE, ZERO), ("row", ONE, ONE)]), ABOVE, EMPTY)[0], "twice")
        self.assertEqual(self.check(made((), [("row", "a", ("row", ZERO, ONE))]), EMPTY, EMPTY)[0], "twice")
        self.assertEqual(self.check(made((), [("row", ONE, made((ONE,), [TWO]))]), LINE, EMPTY)[0], "outside")
        self.assertIsNone(self.check(made((), [("row", ONE, made((ONE,), [TWO]))]), LINE, made((), [made((ONE,), [TWO])])))
        self.assertEqual(self.check(made((), [("row", made((ONE,), [TWO]), made((ONE, TWO), [TWO]))]), EMPTY, EMPTY)[0], "twice")

    def test_by_chance(self):
        chance, seen = seeded(131), set()
        for _ in range(250):
            points, values = some_set_of_parts(chance, 2, chance.choice([1, 2, 3]), 1)
            many = some_map(chance, points, values)
            one, other = firsts(many), seconds(many)
            draw = chance.random()
            if draw < 0.2:
                many = join(many, some_pairs(chance, points, 1, 1))
            elif draw < 0.4:
                one = join(one, made(points, [some_part(chance, 1)]))
            elif draw < 0.6:
                one = less(one, made(some_points(chance, 1), [some_part(chance, 1)]))
            elif draw < 0.8:
                other = less(other, made(some_points(chance, 1), [some_part(chance, 1)]))
            told = self.check(many, one, other)
            seen.add(told and told[0])
        self.assertEqual(seen, {None, "lacks", "twice", "outside"})


class ValueAt(unittest.TestCase):
    def test_anywhere_in_the_gaps(self):
        self.assertEqual([value_at(CUT, (-3, 2)), value_at(CUT, ZERO), value_at(CUT, (3, 2)), value_at(CUT, (10 ** 20, 7))], [ZERO, ZERO, (3, 2), (10 ** 20, 7)])
        swap = made((), [("row", ("row", ZERO, ONE), ("row", ONE, ZERO)), ("row", ("row", ONE, ZERO), "a")])
        self.assertEqual(value_at(swap, ("row", (-7, 2), HALF)), ("row", HALF, (-7, 2)))
        self.assertEqual(value_at(swap, ("row", HALF, (-7, 2))), "a")
        ups = made((), [("row", ONE, made((ONE,), [TWO]))])
        self.assertEqual(value_at(ups, HALF), made((HALF,), [TWO]))
        sets = made((), [("row", made((ONE,), [TWO]), ONE)])
        self.assertEqual(value_at(sets, made((HALF,), [TWO])), HALF)

    def test_no_member(self):
        for value in ("a", ("row", ZERO), LINE):
            with self.assertRaises(NoMember) as caught:
                value_at(CUT, value)
            self.assertEqual(caught.exception.value, value)
            self.assertIsInstance(caught.exception, NotThere)
        self.assertRaises(NoMember, value_at, EMPTY, ZERO)
        self.assertRaises(NoMember, value_at, made((ZERO,), [("row", ONE, ONE)]), ZERO)

    def test_by_chance(self):
        chance = seeded(132)
        for _ in range(150):
            points, values = some_set_of_parts(chance, 3, 3)
            mapping = some_map(chance, points, values)
            many = firsts(mapping)
            for x in values_on(values, further(points, 2))[:40]:
                if not is_in(x, many):
                    self.assertRaises(NoMember, value_at, mapping, x)
                    continue
                y = value_at(mapping, x)
                self.assertTrue(is_in(("row", x, y), mapping))
                self.assertLessEqual(set(support(y)), set(support(x)) | set(mapping[1]))

    def test_600_members(self):
        mapping = made((), [("row", ("row", word, ZERO, ONE), ("row", ONE, word)) for word in WORDS[:600]])
        self.assertEqual(value_at(mapping, ("row", "aa", HALF, THREE)), ("row", THREE, "aa"))
        self.assertEqual(value_at(mapping, ("row", WORDS[599], HALF, THREE)), ("row", THREE, WORDS[599]))
        self.assertRaises(NoMember, value_at, mapping, ("row", WORDS[600], HALF, THREE))


class Images(unittest.TestCase):
    def test_known_ones(self):
        self.assertEqual([image(CUT, LINE), image(LESS, LINE), image(CUT, EMPTY), image(EMPTY, LINE)], [made((ZERO,), [ZERO, ONE]), LINE, EMPTY, EMPTY])
        self.assertEqual(image(LESS, made((ZERO,), [ZERO])), ABOVE)
        self.assertEqual(image(LESS, made((ZERO, ONE), [HALF])), ABOVE)
        self.assertEqual(image(CUT, made((ZERO,), [(-1, 1)])), made((ZERO,), [ZERO]))
        self.assertEqual(image(LESS, made((), ["a"])), EMPTY)

    def test_by_chance(self):
        chance = seeded(133)
        for _ in range(120):
            one = some_pairs(chance, some_points(chance, chance.choice([0, 1, 2])), 3, 1)
            many = made(some_points(chance, 1), [some_part(chance, 1) for _ in range(2)])
            told = image(one, many)
            points = joined_points(one, many)
            self.assertLessEqual(set(told[1]), set(points))
            check_value(told)
            sample = further(points, 1)
            xs = values_on([row[1] for row in one[2]], further(sample, 1))
            for y in values_on([row[2] for row in one[2]], sample):
                expected = any(is_in(x, many) and is_in(("row", x, y), one) for x in xs)
                self.assertEqual(is_in(y, told), expected, (one, many, y))

    def test_too_many(self):
        one = made((), [("row", "a", ("row", word, ZERO)) for word in WORDS[:201]])
        two = made((), one[2][:200])
        self.assertEqual(len(image(two, made((), ["a"]))[2]), 200)
        spot = made((ONE,), ["a", ONE])
        self.assertEqual(image(two, spot), made((), [row[2] for row in two[2]]))
        self.assertRaises(TooMany, image, one, spot)
        self.assertEqual(len(image(one, made((), ["a"]))[2]), 201)
        self.assertEqual(image(one, made((ONE,), [ONE])), EMPTY)
        # All 600 orbits stand beside one and the same first.
        great = made((), [("row", "a", word) for word in WORDS[:600]])
        self.assertEqual(len(image(great, spot)[2]), 600)

    def test_identity(self):
        self.assertEqual([identity(EMPTY), identity(LINE)], [EMPTY, made((), [("row", ZERO, ZERO)])])
        chance = seeded(134)
        for _ in range(60):
            points, values = some_set_of_parts(chance, 3, 4)
            many = made(points, values)
            told = identity(many)
            check_value(told)
            self.assertEqual([firsts(told), seconds(told), judge_map(told, many, many), one_to_one(told), onto(told, many)], [many, many, None, None, None])
            for x in values_on(values, further(points, 1))[:20]:
                if is_in(x, many):
                    self.assertEqual(value_at(told, x), x)


class Then(unittest.TestCase):
    def check(self, one, other):
        told = then(one, other)
        points = joined_points(one, other)
        check_value(told)
        self.assertLessEqual(set(told[1]), set(points))
        sample = further(points, 1)
        ys = values_on([row[2] for row in one[2]], further(sample, 2))
        for x in values_on([row[1] for row in one[2]], sample)[:30]:
            for z in values_on([row[2] for row in other[2]], sample)[:30]:
                expected = any(is_in(("row", x, y), one) and is_in(("row", y, z), other) for y in ys)
                self.assertEqual(is_in(("row", x, z), told), expected, (one, other, x, z))
        return told

    def test_known_ones(self):
        self.assertEqual([then(CUT, CUT), then(LESS, LESS), then(LESS, EMPTY), then(EMPTY, LESS)], [CUT, LESS, EMPTY, EMPTY])
        self.assertEqual(then(LESS, back(LESS)), pairs(LINE, LINE))
        self.assertEqual(self.check(LESS, made((), [("row", ZERO, "a")])), made((), [("row", ZERO, "a")]))
        self.assertEqual(self.check(made((), [("row", "a", ZERO)]), made((), [("row", ZERO, "b")])), made((), [("row", "a", "b")]))
        far = made((ZERO,), [("row", (-1, 1), ONE)])
        self.assertEqual(self.check(far, back(far)), pairs(made((ZERO,), [(-1, 1)]), made((ZERO,), [(-1, 1)])))
        self.assertEqual(self.check(far, far), EMPTY)
        self.assertEqual(then(identity(LINE), CUT), CUT)
        self.assertEqual(then(CUT, identity(image(CUT, LINE))), CUT)
        # What hangs together by a point between: rows of two whose middles meet.
        inner = made((), [("row", ZERO, ("row", ZERO, ONE))])
        outer = made((), [("row", ("row", ZERO, ONE), ONE)])
        self.assertEqual(self.check(inner, outer), LESS)

    def test_by_chance(self):
        chance = seeded(135)
        for _ in range(60):
            one = some_pairs(chance, some_points(chance, chance.choice([0, 1])), chance.choice([1, 2, 3]), 1)
            other = some_pairs(chance, some_points(chance, chance.choice([0, 0, 1])), chance.choice([1, 2, 3]), 1)
            self.check(one, other)

    def test_rows_by_chance(self):
        chance, found = seeded(136), 0
        for _ in range(25):
            middles = [some_part(chance, 2) for _ in range(2)]
            one = made((), [("row", some_part(chance, 2), middle) for middle in middles])
            other = made(some_points(chance, chance.choice([0, 1])), [("row", middle, some_part(chance, 1)) for middle in middles])
            found += self.check(one, other) != EMPTY
        self.assertGreater(found, 20)

    def test_maps(self):
        chance = seeded(137)
        for _ in range(80):
            points, values = some_set_of_parts(chance, 2, 4)
            one, other = some_map(chance, points, values), some_map(chance, points, values)
            both = then(one, other)
            self.assertIsNone(judge_map(both, firsts(one), firsts(one)))
            for x in orbits(firsts(one), points):
                self.assertEqual(value_at(both, x), value_at(other, value_at(one, x)))

    def test_too_many(self):
        left, right = [made((), [("row", word, "m") for word in WORDS[:many]]) for many in (24, 25)]
        self.assertEqual(len(then(left, back(right))[2]), 600)
        self.assertRaises(TooMany, then, right, back(right))
        self.assertEqual(len(then(back(right), right)[2]), 1)
        # Over no points 200 orbits, over one 600, and of 201 more.
        lines = made((), [("row", ("row", word, ZERO), "m") for word in WORDS[:201]])
        two = made((), lines[2][:200])
        spot = made((ONE,), [("row", "m", "a"), ("row", ONE, "b")])
        self.assertEqual(len(then(two, spot)[2]), 200)
        self.assertRaises(TooMany, then, lines, spot)
        self.assertEqual(then(lines, made((ONE,), [("row", ONE, "b")])), EMPTY)
        self.assertEqual(len(then(lines, made((), [("row", "m", "a")]))[2]), 201)

    def test_600_told_members(self):
        wide = made((), [("row", ("row", word, ZERO, ONE), ("row", ONE, ZERO)) for word in WORDS[:600]])
        self.assertEqual(then(wide, made((), [("row", ("row", ONE, ZERO), "b")])), made((), [("row", row[1], "b") for row in wide[2]]))
        self.assertRaises(TooMany, then, wide, made((), [("row", ("row", ONE, ZERO), "b"), ("row", ("row", ONE, ZERO), "c")]))


class Back(unittest.TestCase):
    def test_back(self):
        self.assertEqual([back(LESS), back(EMPTY)], [made((), [("row", ONE, ZERO)]), EMPTY])
        chance = seeded(138)
        for _ in range(100):
            one = some_pairs(chance, some_points(chance, chance.choice([0, 1, 2, 3])), 4)
            told = back(one)
            check_value(told)
            self.assertEqual(told, made(one[1], [("row", row[2], row[1]) for row in one[2]]))
            self.assertEqual(back(told), one)
            self.assertEqual([firsts(told), seconds(told)], [seconds(one), firsts(one)])


class OneToOne(unittest.TestCase):
    def test_known_ones(self):
        x, y = one_to_one(CUT)
        self.assertNotEqual(x, y)
        self.assertEqual([value_at(CUT, x), value_at(CUT, y)], [ZERO, ZERO])
        self.assertTrue(is_in(onto(CUT, LINE), made((ZERO,), [(-1, 1)])))
        constant = made((), [("row", ZERO, "a")])
        x, y = one_to_one(constant)
        self.assertTrue(x != y and is_in(x, LINE) and is_in(y, LINE))
        self.assertIsNone(onto(constant, made((), ["a"])))
        self.assertEqual(onto(constant, made((), ["a", "b"])), "b")
        self.assertIsNone(one_to_one(EMPTY))
        self.assertIsNone(onto(EMPTY, EMPTY))
        self.assertEqual(onto(EMPTY, LINE), ZERO)
        first_of = made((), [("row", ("row", ZERO, ONE), ZERO)])
        x, y = one_to_one(first_of)
        self.assertTrue(x != y and value_at(first_of, x) == value_at(first_of, y))
        # Two orbits with the same values.
        twice = made((), [("row", ("row", ZERO, "a"), ZERO), ("row", ("row", ZERO, "b"), ZERO)])
        x, y = one_to_one(twice)
        self.assertTrue(x != y and value_at(twice, x) == value_at(twice, y))

    def test_by_chance(self):
        chance, one_way = seeded(139), 0
        for _ in range(250):
            points, values = some_set_of_parts(chance, 3, chance.choice([1, 2, 4]))
            mapping = some_map(chance, points, values)
            many = firsts(mapping)
            pair, lacking = one_to_one(mapping), onto(mapping, many)
            # Into itself a map is one to one just if it is onto.
            self.assertEqual(pair is None, lacking is None)
            if pair is None:
                one_way += 1
                self.assertIsNone(judge_map(back(mapping), many, many))
                continue
            self.assertNotEqual(*pair)
            self.assertEqual(value_at(mapping, pair[0]), value_at(mapping, pair[1]))
            self.assertTrue(is_in(lacking, many) and not is_in(lacking, seconds(mapping)))
        self.assertGreater(one_way, 60)
        self.assertLess(one_way, 230)


class Moves(unittest.TestCase):
    def test_what_is_told_moves_with_the_points(self):
        chance = seeded(140)
        for _ in range(60):
            points, values = some_set_of_parts(chance, 3, 3)
            one, other = some_map(chance, points, values), some_pairs(chance, points, 2, 1)
            olds = ascending([*points, *one[1], *other[1]])
            move = tuple((old, (2 * at + 5, 1)) for at, old in enumerate(olds))
            for call in (image, then):
                parts = [one, firsts(other)] if call is image else [one, other]
                self.assertEqual(moved(call(*parts), move), call(*[moved(part, move) for part in parts]))


if __name__ == "__main__":
    unittest.main()
