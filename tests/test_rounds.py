import unittest
from math import lcm

from gapwise.algebra import both, join
from gapwise.errors import NoMember
from gapwise.making import EMPTY, LINE, is_in, made
from gapwise.maps import identity, judge_map, then, value_at
from gapwise.products import firsts
from gapwise.reading import check_value
from gapwise.rounds import come_round, fixed, heart, lengths, levels, power, track
from tests.helping import seeded
from tests.relations import HALF, ONE, THREE, TWO, ZERO, further, some_map, some_set_of_parts, values_on

CUT = made((ZERO,), [("row", (-1, 1), ZERO), ("row", ZERO, ZERO), ("row", ONE, ONE)])
LETTERS = "abcdefghijklmnopqrstuvwxyz"
WORDS = [a + b for a in LETTERS for b in LETTERS]


def words_map(*steps):
    """The map of words numbered from 0 on that leads word k to word steps[k]."""
    return made((), [("row", WORDS[k], WORDS[step]) for k, step in enumerate(steps)])


def rings(*sizes):
    """A map of rings of words with so many words."""
    steps, start = [], 0
    for size in sizes:
        steps.extend([start + (k + 1) % size for k in range(size)])
        start += size
    return words_map(*steps)


class Powers(unittest.TestCase):
    def test_small_powers(self):
        chance = seeded(141)
        for _ in range(100):
            points, values = some_set_of_parts(chance, 3, chance.choice([1, 2, 4]))
            mapping = some_map(chance, points, values)
            many = firsts(mapping)
            told = identity(many)
            self.assertEqual(power(mapping, 0), told)
            self.assertEqual(power(mapping, 1), mapping)
            for n in range(5):
                self.assertEqual(power(mapping, n), told)
                check_value(told)
                self.assertIsNone(judge_map(told, many, many))
                told = then(told, mapping)

    def test_great_powers(self):
        swap = made((), [("row", ("row", ZERO, ONE), ("row", ONE, ZERO)), ("row", ("row", ONE, ZERO), ("row", ZERO, ONE))])
        self.assertEqual([power(swap, 10 ** 30), power(swap, 10 ** 30 - 1)], [identity(firsts(swap)), swap])
        chance = seeded(142)
        for _ in range(60):
            points, values = some_set_of_parts(chance, 2, chance.choice([2, 5]))
            mapping = some_map(chance, points, values)
            tail, period = come_round(mapping)
            for n in (tail, tail + 1, tail + period, 10 ** 30, 10 ** 30 - 7, 12345678901234567890):
                self.assertEqual(power(mapping, n), power(mapping, tail + (n - tail) % period))

    def test_600_members(self):
        great = rings(2, 3, 5, 7, 11, 13, 17, 19, 23, 29, 31, 37, 41, 43, 47, 53, 59, 61)
        period = 1
        for prime in (2, 3, 5, 7, 11, 13, 17, 19, 23, 29, 31, 37, 41, 43, 47, 53, 59, 61):
            period *= prime
        self.assertEqual(come_round(great), (0, period))
        self.assertEqual(power(great, period), identity(firsts(great)))
        self.assertNotEqual(power(great, period // 61), identity(firsts(great)))
        self.assertEqual(value_at(power(great, 10 ** 30), "aa"), "aa")
        self.assertEqual(value_at(power(great, 10 ** 30), WORDS[2]), WORDS[2 + 10 ** 30 % 3])
        chain = words_map(*range(1, 600), 599)
        self.assertEqual(come_round(chain), (599, 1))
        self.assertEqual(value_at(power(chain, 598), "aa"), WORDS[598])
        self.assertEqual(power(chain, 599), made((), [("row", word, WORDS[599]) for word in WORDS[:600]]))
        self.assertEqual(power(chain, 599), power(chain, 10 ** 30))

    def test_the_empty_map(self):
        self.assertEqual([power(EMPTY, 0), power(EMPTY, 10 ** 30), come_round(EMPTY), heart(EMPTY), lengths(EMPTY), levels(EMPTY), fixed(EMPTY)],
                         [EMPTY, EMPTY, (0, 1), EMPTY, [], [EMPTY], EMPTY])
        self.assertRaises(NoMember, track, EMPTY, "a")


class ComeRound(unittest.TestCase):
    def test_known_ones(self):
        self.assertEqual([come_round(CUT), come_round(identity(LINE)), come_round(rings(4, 6)), come_round(words_map(1, 2, 0, 0, 3))], [(1, 1), (0, 1), (0, 12), (2, 3)])
        turn = made((), [("row", ("row", ZERO, ONE, "a"), ("row", ZERO, ONE, "b")), ("row", ("row", ZERO, ONE, "b"), ("row", ONE, ZERO)), ("row", ("row", ONE, ZERO), ("row", ZERO, ONE, "a"))])
        self.assertEqual(come_round(turn), (0, 3))

    def test_least_numbers(self):
        chance, seen = seeded(143), set()
        for _ in range(150):
            points, values = some_set_of_parts(chance, 2, chance.choice([1, 3, 5]))
            mapping = some_map(chance, points, values)
            tail, period = come_round(mapping)
            powers = []
            while len(powers) < 2 or powers[-1] not in powers[:-1]:
                powers.append(power(mapping, len(powers)))
            first = powers.index(powers[-1])
            self.assertEqual((tail, period), (first, len(powers) - 1 - first))
            seen.add((tail > 0, period > 1))
        self.assertEqual(len(seen), 4)


class Track(unittest.TestCase):
    def test_known_ones(self):
        self.assertEqual([track(CUT, (-5, 1)), track(CUT, ZERO), track(CUT, (2, 1))], [(((-5, 1),), (ZERO,)), ((), (ZERO,)), ((), ((2, 1),))])
        self.assertEqual(track(words_map(1, 2, 0, 0, 3), "ae"), (("ae", "ad"), ("aa", "ab", "ac")))
        self.assertEqual(track(words_map(1, 2, 0, 0, 3), "ab"), ((), ("ab", "ac", "aa")))
        lose = made((), [("row", ("row", ZERO, ONE), ("row", ZERO, "a")), ("row", ("row", ZERO, "a"), "b"), ("row", "b", "b")])
        self.assertEqual(track(lose, ("row", HALF, (9, 1))), ((("row", HALF, (9, 1)), ("row", HALF, "a")), ("b",)))

    def test_by_chance(self):
        chance = seeded(144)
        for _ in range(100):
            points, values = some_set_of_parts(chance, 3, 4)
            mapping = some_map(chance, points, values)
            for x in values_on(values, further(points, 2))[:15]:
                if not is_in(x, firsts(mapping)):
                    self.assertRaises(NoMember, track, mapping, x)
                    continue
                ahead, ring = track(mapping, x)
                walk = [*ahead, *ring]
                self.assertEqual([walk[0], len(set(walk))], [x, len(walk)])
                self.assertEqual([value_at(mapping, value) for value in walk], [*walk[1:], ring[0]])
                self.assertIs(type(ahead), tuple)
                self.assertIs(type(ring), tuple)

    def test_600_values(self):
        self.assertEqual([len(part) for part in track(words_map(*range(1, 600), 300), "aa")], [300, 300])

    def test_no_member(self):
        for value in ("a", ("row", ONE, ONE), EMPTY):
            with self.assertRaises(NoMember) as caught:
                track(CUT, value)
            self.assertEqual(caught.exception.value, value)


class Hearts(unittest.TestCase):
    def test_known_ones(self):
        self.assertEqual([heart(CUT), fixed(CUT)], [made((ZERO,), [ZERO, ONE])] * 2)
        self.assertEqual([lengths(CUT), levels(CUT)], [[(1, made((ZERO,), [ZERO, ONE]))], [made((ZERO,), [ZERO, ONE]), made((ZERO,), [(-1, 1)])]])
        one = words_map(1, 2, 0, 0, 3, 5)
        self.assertEqual(heart(one), made((), ["aa", "ab", "ac", "af"]))
        self.assertEqual(lengths(one), [(1, made((), ["af"])), (3, made((), ["aa", "ab", "ac"]))])
        self.assertEqual(levels(one), [heart(one), made((), ["ad"]), made((), ["ae"])])
        self.assertEqual(fixed(one), made((), ["af"]))
        self.assertEqual(fixed(rings(2)), EMPTY)

    def test_by_chance(self):
        chance = seeded(145)
        for _ in range(100):
            points, values = some_set_of_parts(chance, 3, chance.choice([1, 2, 5]))
            mapping = some_map(chance, points, values)
            many, (tail, period) = firsts(mapping), come_round(mapping)
            told = lengths(mapping)
            steps = levels(mapping)
            self.assertEqual(len(steps), tail + 1)
            self.assertEqual([length for length, _ in told], sorted({length for length, _ in told}))
            self.assertEqual(lcm(*[length for length, _ in told]), period)
            together = EMPTY
            for part in steps:
                self.assertEqual(both(together, part), EMPTY)
                self.assertNotEqual(part, EMPTY)
                together = join(together, part)
            self.assertEqual(together, many)
            self.assertEqual(steps[0], heart(mapping))
            for x in values_on(values, further(points, 2))[:15]:
                if is_in(x, many):
                    ahead, ring = track(mapping, x)
                    self.assertTrue(is_in(x, steps[len(ahead)]))
                    self.assertEqual([length for length, part in told if is_in(x, part)], [] if ahead else [len(ring)])
                    self.assertEqual(is_in(x, heart(mapping)), not ahead)
                    self.assertEqual(is_in(x, fixed(mapping)), value_at(mapping, x) == x)

    def test_told_lists_are_new(self):
        for call in (lengths, levels):
            told = call(CUT)
            told.clear()
            self.assertEqual(len(call(CUT)), 1 if call is lengths else 2)

    def test_600_members(self):
        chain = words_map(*range(1, 600), 599)
        self.assertEqual([len(levels(chain)), levels(chain)[599], lengths(chain), heart(chain)], [600, made((), ["aa"]), [(1, made((), [WORDS[599]]))], made((), [WORDS[599]])])
        wide = made((), [("row", ("row", word, ZERO, ONE, TWO, THREE), ("row", word, ZERO, ONE, TWO, THREE)) for word in WORDS[:600]])
        self.assertEqual(fixed(wide), firsts(wide))


if __name__ == "__main__":
    unittest.main()
