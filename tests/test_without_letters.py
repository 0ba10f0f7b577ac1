"""Machines without letters, in every call of part 9: the empty word is their only word."""

import unittest

from gapwise.algebra import less
from gapwise.errors import BadMove, NoLetter, PartedBy
from gapwise.least import lead, least_machine, matched
from gapwise.machines import judge_machine, moved_machine, other_machine, run_word, takes, turned_machine
from gapwise.making import EMPTY, LINE, is_in, made, orbits
from gapwise.placing import moved
from gapwise.products import pairs
from gapwise.reading import check_value
from gapwise.words import alike_machines, both_machines, either_machine, first_word, judge_alike, reached, word_to
from tests.helping import is_same_thing, seeded, some_points
from tests.plain_machines import all_points, some_machine
from tests.relations import HALF, ONE, THREE, TWO, ZERO, only
from tests.test_machines import bent


def still(places, start, ends):
    """The machine without letters that has these places and ends."""
    return (EMPTY, places, start, EMPTY, ends)


START, BOTH = only("start"), made((), ["idle", "start"])
NONE, ALL = still(START, "start", EMPTY), still(START, "start", START)
# Takes no word, though a place that is not reached is an end.
IDLE = still(BOTH, "start", only("idle"))
AT_ZERO = still(only(ZERO), ZERO, only(ZERO))
# The line's places beside the start's are not reached; the ends hang on the start's point.
ABOVE = still(LINE, ONE, made((ONE,), [TWO]))
FROM_ONE = still(LINE, ONE, made((ONE,), [ONE, TWO]))
OF_ROWS = still(made((), ["w", ("row", ZERO, ONE)]), "w", made((ZERO,), [("row", ONE, TWO), "w"]))
OF_SETS = still(made((), [EMPTY, LINE, made((ZERO,), [ONE])]), EMPTY, made((), [LINE]))
TAKING, LEAVING = [ALL, AT_ZERO, FROM_ONE, OF_ROWS], [NONE, IDLE, ABOVE, OF_SETS]
MACHINES = TAKING + LEAVING


def some_still(chance, points):
    return some_machine(chance, points, EMPTY)


def two_of_each():
    """All pairs of the machines above with at most one point in all."""
    return [(one, other) for one in MACHINES for other in MACHINES if len(all_points(one, other)) < 2]


def some_twos(seed, many):
    """Pairs of machines made by chance, with at most one point in all."""
    chance, found = seeded(seed), []
    for _ in range(many):
        points = some_points(chance, chance.choice([0, 1]))
        found.append((some_still(chance, points), some_still(chance, points)))
    return found


class Still(unittest.TestCase):
    def assert_same(self, one, other):
        self.assertTrue(is_same_thing(one, other), (one, other))

    def check_parts(self, machine):
        self.assertIsNone(judge_machine(machine))
        for part in machine:
            check_value(part)


class JudgeMachine(Still):
    def test_right_ones(self):
        for machine in MACHINES:
            self.check_parts(machine)
        for twos in some_twos(301, 40):
            for machine in twos:
                self.assertEqual([machine[0], machine[3]], [EMPTY, EMPTY])
                self.check_parts(machine)

    def test_wrong_ones(self):
        self.assertEqual(judge_machine(bent(NONE, start="idle")), ("start",))
        self.assertEqual(judge_machine(still(EMPTY, "start", EMPTY)), ("start",))
        self.assertEqual(judge_machine(bent(NONE, ends=BOTH)), ("ends", "idle"))
        # Each move leads by what is no letter.
        for row in (("row", "start", "a", "start"), ("row", "start", "start", "start"), ("row", "start", EMPTY, "start"), ("row", "start", "start"), "start"):
            self.assertEqual(judge_machine(bent(ALL, moves=only(row))), ("moves", row))
        word, m = judge_machine(bent(FROM_ONE, moves=made((), [("row", ZERO, ONE, ZERO)])))
        self.assertEqual([word, m[0], m[1] == m[3]], ["moves", "row", True])
        # With a letter a place lacks its move.
        self.assertEqual(judge_machine(bent(NONE, letters=only("a"))), ("lacks", "start", "a"))


class Words(Still):
    def test_run_word_and_takes(self):
        for machine in MACHINES:
            for word in ((), []):
                self.assert_same(run_word(machine, word), (machine[2],))
                self.assertIs(takes(machine, word), machine in TAKING)
            for word in (["a"], (machine[2],), [EMPTY, ZERO], (ONE,)):
                for call in (run_word, takes):
                    with self.assertRaises(NoLetter) as caught:
                        call(machine, word)
                    self.assertEqual(caught.exception.number, 0)

    def check_words(self, machine):
        taken = is_in(machine[2], machine[4])
        self.assert_same(reached(machine), only(machine[2]))
        self.assert_same(first_word(machine), () if taken else None)
        self.assert_same(word_to(machine, machine[2]), ())
        for value in [*orbits(machine[1], all_points(machine)), "b", THREE, ("row", "start"), EMPTY]:
            self.assert_same(word_to(machine, value), () if value == machine[2] else None)

    def test_reached(self):
        for machine in MACHINES:
            self.check_words(machine)
        for one, other in some_twos(302, 60):
            self.check_words(one)
            self.check_words(other)


class Alike(Still):
    def check_alike(self, one, other):
        paper = alike_machines(one, other)
        self.assertIsNone(judge_alike(one, other, paper))
        if is_in(one[2], one[4]) == is_in(other[2], other[4]):
            self.assertEqual([paper[0], is_in(("row", one[2], other[2]), paper[1])], ["alike", True])
            check_value(paper[1])
        else:
            self.assert_same(paper, ("word", ()))
        return paper[0]

    def test_alike_machines(self):
        for one, other in two_of_each():
            self.assertEqual(self.check_alike(one, other), "alike" if (one in TAKING) == (other in TAKING) else "word")

    def test_by_chance(self):
        told = [self.check_alike(one, other) for one, other in some_twos(303, 80)]
        self.assertGreater(min(told.count("alike"), told.count("word")), 10)

    def test_judge_pairs(self):
        right = only(("row", "start", "start"))
        for one, other in ((NONE, NONE), (ALL, ALL), (NONE, IDLE), (IDLE, NONE)):
            self.assertIsNone(judge_alike(one, other, ("alike", right)))
            self.assertEqual(judge_alike(one, other, ("alike", EMPTY)), ("start",))
        for one, other in ((NONE, ALL), (ALL, NONE), (IDLE, ALL)):
            self.assertEqual(judge_alike(one, other, ("alike", right)), ("ends", "start", "start"))
        for m in ("a", ("row", "start"), ("row", "idle", "start"), ("row", "start", "a"), ("row", "start", "start", "start"), EMPTY):
            self.assertEqual(judge_alike(NONE, IDLE, ("alike", made((), ["start", m]) if m == "a" else made((), [("row", "start", "start"), m])))[0], "pairs")
        # Pairs to which no word leads count, too.
        self.assertEqual(judge_alike(IDLE, NONE, ("alike", pairs(BOTH, START))), ("ends", "idle", "start"))
        self.assertIsNone(judge_alike(IDLE, IDLE, ("alike", made((), [("row", "idle", "idle"), ("row", "start", "start")]))))

    def test_judge_pairs_with_points(self):
        self.assertIsNone(judge_alike(AT_ZERO, ALL, ("alike", only(("row", ZERO, "start")))))
        self.assertEqual(judge_alike(FROM_ONE, FROM_ONE, ("alike", made((), [("row", ZERO, ZERO)]))), None)
        self.assertEqual(judge_alike(FROM_ONE, FROM_ONE, ("alike", only(("row", TWO, TWO)))), ("start",))
        self.assertIsNone(judge_alike(FROM_ONE, FROM_ONE, ("alike", made((ONE, TWO), [("row", ONE, ONE), ("row", TWO, THREE)]))))
        word, p, q = judge_alike(ABOVE, ABOVE, ("alike", pairs(LINE, LINE)))
        self.assertEqual([word, is_in(p, ABOVE[4]) != is_in(q, ABOVE[4])], ["ends", True])
        self.assertEqual(judge_alike(ABOVE, FROM_ONE, ("alike", made((), [("row", ZERO, ZERO)]))), ("ends", ONE, ONE))

    def test_judge_words(self):
        for one, other in two_of_each():
            unlike = (one in TAKING) != (other in TAKING)
            self.assertEqual(judge_alike(one, other, ("word", ())), None if unlike else ("taken",))
            for word in (("a",), (ZERO, "a"), (EMPTY,)):
                self.assertEqual(judge_alike(one, other, ("word", word)), ("letter", 0))


class Least(Still):
    def check_least(self, machine):
        start = machine[2]
        places = only(only(start))
        ends = places if is_in(start, machine[4]) else EMPTY
        told = least_machine(machine)
        self.assert_same(told, still(places, only(start), ends))
        self.check_parts(told)
        self.assert_same(lead(machine), only(("row", start, only(start))))
        self.assertEqual(alike_machines(machine, told)[0], "alike")

    def test_least_machine(self):
        for machine in MACHINES:
            self.check_least(machine)
        for one, other in some_twos(304, 60):
            self.check_least(one)
            self.check_least(other)

    def check_matched(self, one, other):
        if is_in(one[2], one[4]) == is_in(other[2], other[4]):
            self.assert_same(matched(one, other), only(("row", only(one[2]), only(other[2]))))
            return
        with self.assertRaises(PartedBy) as caught:
            matched(one, other)
        self.assert_same(caught.exception.word, ())

    def test_matched(self):
        for one, other in two_of_each():
            self.check_matched(one, other)
        for one, other in some_twos(305, 60):
            self.check_matched(one, other)

    def test_nothing_is_too_many(self):
        # One place alone is reached, however many there are.
        words = [a + b for a in "abcdefghijklmno" for b in "abcdefghijklmno"][:199]
        places = made((), ["start", *[("row", word, ZERO, ONE) for word in words]])
        machine = still(places, "start", made((ZERO,), [("row", "aa", ZERO, ONE)]))
        self.assertIsNone(judge_machine(machine))
        self.check_least(machine)
        self.check_matched(machine, machine)
        self.assertEqual(alike_machines(machine, ALL), ("word", ()))
        self.assertEqual(either_machine(machine, machine)[1], only(("row", "start", "start")))


class Made(Still):
    def check_joined(self, one, other):
        ends = [is_in(machine[2], machine[4]) for machine in (one, other)]
        start = ("row", one[2], other[2])
        for call, fits in ((both_machines, all), (either_machine, any)):
            told = call(one, other)
            self.assert_same(told, still(only(start), start, only(start) if fits(ends) else EMPTY))
            self.check_parts(told)
            self.assertIs(takes(told, ()), fits(ends))

    def test_both_and_either(self):
        for one, other in two_of_each():
            self.check_joined(one, other)
        for one, other in some_twos(306, 60):
            self.check_joined(one, other)

    def test_joined_ones_go_on(self):
        told = both_machines(either_machine(NONE, ALL), IDLE)
        start = ("row", ("row", "start", "start"), "start")
        self.assertEqual([told, first_word(told)], [still(only(start), start, EMPTY), None])
        self.assertEqual(least_machine(told), still(only(only(start)), only(start), EMPTY))
        self.assertEqual(matched(told, NONE), only(("row", only(start), START)))
        self.assertEqual(alike_machines(other_machine(told), ALL)[0], "alike")

    def test_other_machine(self):
        self.assertEqual([other_machine(NONE), other_machine(ALL), other_machine(IDLE)], [ALL, NONE, bent(IDLE, ends=START)])
        for machine in MACHINES:
            told = other_machine(machine)
            self.assert_same(told, bent(machine, ends=less(machine[1], machine[4])))
            self.check_parts(told)
            self.assertEqual(alike_machines(machine, told), ("word", ()))

    def test_turned_machine(self):
        for machine in MACHINES:
            self.assert_same(turned_machine(machine, EMPTY), machine)

    def test_moved_machine(self):
        for machine in MACHINES:
            move = ((ZERO, HALF), (ONE, TWO))
            told = moved_machine(machine, move)
            self.assert_same(told, tuple(moved(part, move) for part in machine))
            self.check_parts(told)
            self.assert_same(least_machine(told), moved_machine(least_machine(machine), move))
        for machine in (AT_ZERO, ABOVE, FROM_ONE, OF_ROWS):
            self.assertRaises(BadMove, moved_machine, machine, ())
        self.assertEqual(moved_machine(ALL, ()), ALL)


if __name__ == "__main__":
    unittest.main()
