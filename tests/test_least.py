import unittest

from gapwise.errors import LineError, PartedBy, TooMany
from gapwise.least import lead, least_machine, matched
from gapwise.making import EMPTY, LINE, is_in, made, orbits
from gapwise.machines import judge_machine, moved_machine, takes
from gapwise.maps import back, judge_map, one_to_one, onto, value_at
from gapwise.placing import moved
from gapwise.points import merged_points
from gapwise.products import firsts, pairs, seconds
from gapwise.reading import check_value
from gapwise.values import support
from gapwise.words import alike_machines, both_machines, reached
from tests.helping import seeded
from tests.plain_machines import Plain, all_points, classes, some_machines, some_word
from tests.relations import ONE, TWO, ZERO, only
from tests.test_machines import EVEN, RISES, bent
from tests.test_words import counter

LOST = (LINE, made((), ["up"]), "up", made((), [("row", "up", ZERO, "up")]), EMPTY)


class LeastMachine(unittest.TestCase):
    def test_known_ones(self):
        least = least_machine(counter(6, [0, 3]))
        self.assertEqual(least[1], made((), [made((), ["aa", "ad"]), made((), ["ab", "ae"]), made((), ["ac", "af"])]))
        self.assertEqual([least[0], least[2], least[4]], [made((), ["a"]), made((), ["aa", "ad"]), made((), [made((), ["aa", "ad"])])])
        self.assertEqual(least[3], made((), [("row", made((), list(one)), "a", made((), list(other))) for one, other in ((("aa", "ad"), ("ab", "ae")), (("ab", "ae"), ("ac", "af")), (("ac", "af"), ("aa", "ad")))]))
        # What is not reached plays no role.
        self.assertEqual(least_machine(LOST), (LINE, made((), [only("up")]), only("up"), made((), [("row", only("up"), ZERO, only("up"))]), EMPTY))
        more = bent(LOST, places=made((), ["up", "down"]), moves=made((), [("row", "up", ZERO, "up"), ("row", "down", ZERO, "up")]), ends=only("down"))
        self.assertEqual(least_machine(more), least_machine(LOST))
        self.assertEqual(least_machine(RISES)[1], made((), [only("none"), made((ZERO,), [ZERO]), only("fell")]))

    def test_places_with_points_that_are_one(self):
        # The last letter is kept but never asked for.
        keeps = (LINE, made((), ["none", ZERO]), "none", made((), [("row", "none", ZERO, ZERO), ("row", ZERO, ZERO, ZERO), ("row", ZERO, ONE, ONE), ("row", ONE, ZERO, ZERO)]), LINE)
        self.assertIsNone(judge_machine(keeps))
        least = least_machine(keeps)
        self.assertEqual([least[1], least[2], least[4]], [made((), [only("none"), LINE]), only("none"), made((), [LINE])])
        self.assertEqual(lead(keeps), made((), [("row", "none", only("none")), ("row", ZERO, LINE)]))

    def test_by_chance(self):
        chance, smaller = seeded(211), []
        for _ in range(150):
            machine, = some_machines(chance, 1)
            points = all_points(machine)
            plain = Plain(machine, points)
            try:
                least = least_machine(machine)
            except TooMany:
                continue
            held = reached(machine)
            are_one = classes(plain, held)
            parts = orbits(held, points)
            sets = [made(merged_points(points, support(p)), [q for q in orbits(held, merged_points(points, support(p))) if are_one(p, q)]) for p in parts]
            self.assertEqual(least[0], machine[0])
            self.assertEqual(least[1], made(points, sets))
            self.assertTrue(is_in(machine[2], least[2]) and is_in(least[2], least[1]))
            self.assertEqual(least[4], made(points, [many for p, many in zip(parts, sets) if plain.is_end(p)]))
            self.assertIsNone(judge_machine(least))
            self.assertEqual(alike_machines(least, machine)[0], "alike")
            for part in least:
                check_value(part)
            leads = lead(machine)
            self.assertEqual(leads, made(points, [("row", p, many) for p, many in zip(parts, sets)]))
            self.assertIsNone(judge_map(leads, held, least[1]))
            self.assertIsNone(onto(leads, least[1]))
            word = some_word(chance, machine, 3)
            self.assertEqual(takes(least, word), takes(machine, word))
            self.assertEqual(Plain(least, points).walk(word), [value_at(leads, place) for place in plain.walk(word)])
            self.assertEqual(least_machine(least)[1], made(points, [made(merged_points(points, support(many)), [many]) for many in orbits(least[1], points)]))
            smaller.append(len(orbits(least[1], points)) < len(parts))
        self.assertGreater(smaller.count(True), 20)
        self.assertGreater(smaller.count(False), 20)

    def test_moved(self):
        chance = seeded(212)
        for _ in range(30):
            machine, = some_machines(chance, 1, True)
            move = tuple((old, (7, 3)) for old in all_points(machine))
            try:
                self.assertEqual(least_machine(moved_machine(machine, move)), moved_machine(least_machine(machine), move))
                self.assertEqual(lead(moved_machine(machine, move)), moved(lead(machine), move))
            except TooMany:
                pass


class Matched(unittest.TestCase):
    def test_known_ones(self):
        told = matched(counter(2, [0]), counter(4, [0, 2]))
        self.assertEqual(told, made((), [("row", made((), ["aa"]), made((), ["aa", "ac"])), ("row", made((), ["ab"]), made((), ["ab", "ad"]))]))
        self.assertEqual(value_at(told, made((), ["ab"])), made((), ["ab", "ad"]))

    def test_parted(self):
        for one, other, word in ((RISES, LOST, ()), (counter(6, [0]), counter(3, [0]), ("a",) * 3), (counter(2, [0]), counter(4, [0]), ("a", "a"))):
            with self.assertRaises(PartedBy) as caught:
                matched(one, other)
            self.assertEqual(caught.exception.word, word)
            self.assertIsInstance(caught.exception, LineError)
            self.assertIs(type(caught.exception.word), tuple)

    def test_by_chance(self):
        chance, seen = seeded(213), []
        for _ in range(120):
            one, other = some_machines(chance, 2, True)
            if chance.random() < 0.6:
                other = chance.choice([least_of(one), bent(one, ends=one[4]), other])
            try:
                paper = alike_machines(one, other)
                first, second = least_machine(one), least_machine(other)
            except TooMany:
                self.assertRaises(TooMany, matched, one, other)
                continue
            seen.append(paper[0])
            if paper[0] == "word":
                with self.assertRaises(PartedBy) as caught:
                    matched(one, other)
                self.assertEqual(len(caught.exception.word), len(paper[1]))
                self.assertNotEqual(takes(one, caught.exception.word), takes(other, caught.exception.word))
                continue
            told = matched(one, other)
            self.assertEqual([firsts(told), seconds(told)], [first[1], second[1]])
            self.assertEqual([judge_map(told, first[1], second[1]), one_to_one(told), judge_map(back(told), second[1], first[1])], [None, None, None])
            self.assertEqual([value_at(told, first[2]), matched(other, one)], [second[2], back(told)])
            points = all_points(one, other)
            for row in orbits(told, points):
                self.assertEqual(is_in(row[1], first[4]), is_in(row[2], second[4]))
                for letter in orbits(one[0], merged_points(points, support(row))):
                    self.assertEqual(value_at(told, Plain(first, points).behind(row[1], letter)), Plain(second, points).behind(row[2], letter))
        self.assertGreater(min(seen.count("alike"), seen.count("word")), 20)


def least_of(machine):
    try:
        return least_machine(machine)
    except TooMany:
        return machine


class Many(unittest.TestCase):
    def test_just_above_600(self):
        self.assertEqual(len(least_machine(counter(24, [0]))[1][2]), 24)
        for call in (least_machine, lead):
            self.assertRaises(TooMany, call, counter(25, [0]))
        # Reached places alone count, not all of them.
        few = bent(counter(25, [0]), start="aa", moves=made((), [("row", row[1], "a", "aa") for row in counter(25, [0])[3][2]]))
        self.assertEqual(len(least_machine(few)[1][2]), 1)

    def test_too_many_comes_ahead_of_a_parting_word(self):
        self.assertEqual(alike_machines(counter(25, [0]), counter(5, []))[0], "word")
        self.assertRaises(TooMany, matched, counter(25, [0]), counter(5, []))
        self.assertRaises(TooMany, matched, counter(5, []), counter(25, [0]))
        self.assertRaises(TooMany, matched, counter(23, [0]), counter(27, []))
        self.assertRaises(PartedBy, matched, counter(24, [0]), counter(24, []))

    def test_orbits_over_the_points_of_all_parts(self):
        # Seven words round, each with the first letter: 162 orbits of pairs, and 680 over a point.
        words = "abcdefg"
        held = [("row", word, ZERO) for word in words]
        moves = [("row", "s", ZERO, held[0])]
        for word, other in zip(words, words[1:] + words[0]):
            moves.extend([("row", ("row", word, at), ONE, ("row", other, at)) for at in (ZERO, ONE, TWO)])
        machine = (LINE, made((), ["s", *held]), "s", made((), moves), made((), held[:1]))
        self.assertIsNone(judge_machine(machine))
        self.assertEqual([len(orbits(pairs(machine[1], machine[1]), ())), len(least_machine(machine)[1][2])], [162, 7])
        at_point = bent(machine, ends=made((ONE,), [("row", "a", TWO)]))
        self.assertIsNone(judge_machine(at_point))
        for call in (least_machine, lead):
            self.assertRaises(TooMany, call, at_point)
        self.assertRaises(TooMany, matched, at_point, at_point)
        self.assertEqual(alike_machines(at_point, at_point)[0], "alike")

    def test_joined_machines(self):
        machine = both_machines(counter(2, [0]), counter(3, [0]))
        self.assertEqual(len(least_machine(machine)[1][2]), 6)
        self.assertEqual(matched(machine, counter(6, [0]))[1], ())
        self.assertEqual(takes(least_machine(EVEN), "aba"), True)


if __name__ == "__main__":
    unittest.main()
