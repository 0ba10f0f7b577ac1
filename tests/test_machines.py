import unittest

from gapwise.algebra import join, less
from gapwise.errors import BadMove, NoLetter, NotThere, TooMany
from gapwise.making import EMPTY, LINE, is_in, made, orbits
from gapwise.machines import judge_machine, moved_machine, other_machine, run_word, takes, turned_machine
from gapwise.maps import back
from gapwise.placing import moved
from gapwise.points import merged_points
from gapwise.products import firsts, pairs, seconds
from gapwise.reading import check_value
from gapwise.values import support
from gapwise.words import reached
from tests.helping import ascending, seeded
from tests.plain_machines import Plain, all_points, some_machine, some_machines, some_word
from tests.relations import HALF, ONE, THREE, TWO, ZERO, only

PLACES = made((), ["none", ZERO, "fell"])
STEPS = [("row", "none", ZERO, ZERO), ("row", ZERO, ONE, ONE), ("row", ZERO, ZERO, "fell"), ("row", ONE, ZERO, "fell"), ("row", "fell", ZERO, "fell")]
RISES = (LINE, PLACES, "none", made((), STEPS), made((), ["none", ZERO]))
WORDS = made((), ["a", "b"])
# Takes the words with an even number of a.
EVEN = (WORDS, made((), ["e", "o"]), "e", made((), [("row", "e", "a", "o"), ("row", "o", "a", "e"), ("row", "e", "b", "e"), ("row", "o", "b", "o")]), made((), ["e"]))


def bent(machine, **parts):
    names = ("letters", "places", "start", "moves", "ends")
    return tuple(parts.get(name, part) for name, part in zip(names, machine))


class JudgeMachine(unittest.TestCase):
    def test_right_ones(self):
        for machine in (RISES, EVEN, (EMPTY, WORDS, "a", EMPTY, WORDS), bent(RISES, ends=EMPTY), bent(RISES, ends=PLACES), bent(RISES, start=THREE), (EMPTY, only("a"), "a", EMPTY, EMPTY)):
            self.assertIsNone(judge_machine(machine))

    def test_start(self):
        self.assertEqual(judge_machine(bent(RISES, start="up")), ("start",))
        self.assertEqual(judge_machine((LINE, EMPTY, "a", EMPTY, EMPTY)), ("start",))
        self.assertEqual(judge_machine(bent(RISES, start=("row", ZERO), ends=LINE, moves=LINE)), ("start",))

    def test_ends(self):
        self.assertEqual(judge_machine(bent(RISES, ends=made((), ["none", "up"]))), ("ends", "up"))
        word, p = judge_machine(bent(RISES, places=made((ZERO,), ["none", "fell", ONE]), moves=LINE))
        self.assertEqual([word, is_in(p, RISES[4]), is_in(p, made((ZERO,), [ONE, "none"]))], ["ends", True, False])

    def test_moves(self):
        for row in ("a", "abcd", ZERO, ("row", "none", ZERO), ("row", "none", ZERO, ZERO, ZERO), ("row", "up", ZERO, ZERO), ("row", ZERO, "a", ZERO), ("row", ZERO, ONE, "up"), LINE):
            word, m = judge_machine(bent(RISES, moves=join(RISES[3], made((), [row]))))
            self.assertEqual([word, is_in(m, made((), [row]))], ["moves", True])
        # A word is no row, also where its letters would be a place, a letter and a place.
        self.assertEqual(judge_machine(bent(EVEN, moves=join(EVEN[3], made((), ["xeao"])))), ("moves", "xeao"))
        # A letter that is none lies beside ones that are.
        word, m = judge_machine(bent(RISES, letters=made((ZERO,), [ONE])))
        self.assertTrue(word == "moves" and is_in(m, RISES[3]) and not is_in(m[2], made((ZERO,), [ONE])))

    def test_lacks(self):
        self.assertEqual(judge_machine(bent(EVEN, moves=made((), EVEN[3][2][1:]))), ("lacks", "e", "a"))
        for at in range(5):
            moves = made((), STEPS[:at] + STEPS[at + 1:])
            word, p, a = judge_machine(bent(RISES, moves=moves))
            self.assertEqual(word, "lacks")
            self.assertTrue(is_in(p, PLACES) and is_in(a, LINE))
            self.assertFalse(any(is_in(("row", p, a, q), moves) for q in ("none", "fell", p, a)))
        word, p, a = judge_machine(bent(RISES, moves=less(RISES[3], only(("row", "none", TWO, TWO)))))
        self.assertEqual([word, p, a], ["lacks", "none", TWO])

    def test_twice(self):
        told = judge_machine(bent(EVEN, moves=join(EVEN[3], made((), [("row", "e", "a", "e")]))))
        self.assertEqual([told[:3], sorted(told[3:])], [("twice", "e", "a"), ["e", "o"]])
        # An end with a point of its own stands for many ends.
        for moves in ([("row", "none", ZERO, ONE), *STEPS[1:]], [*STEPS, ("row", ZERO, ONE, TWO)], [*STEPS, ("row", ZERO, ONE, ZERO)], [*STEPS[:2], *STEPS[3:], ("row", ZERO, ZERO, ONE)]):
            many = made((), moves)
            word, p, a, q, r = judge_machine(bent(RISES, moves=many))
            self.assertEqual(word, "twice")
            self.assertTrue(is_in(("row", p, a, q), many) and is_in(("row", p, a, r), many) and q != r)

    def test_the_first_kind_that_applies(self):
        worst = (LINE, made((), ["a"]), "b", made((), ["c"]), made((), ["d"]))
        self.assertEqual(judge_machine(worst), ("start",))
        self.assertEqual(judge_machine(bent(worst, start="a")), ("ends", "d"))
        self.assertEqual(judge_machine(bent(worst, start="a", ends=EMPTY)), ("moves", "c"))
        self.assertEqual(judge_machine(bent(worst, start="a", ends=EMPTY, moves=EMPTY))[0], "lacks")
        doubled = [("row", "e", "a", "o"), ("row", "e", "a", "e")]
        self.assertEqual(judge_machine(bent(EVEN, moves=made((), doubled)))[0], "lacks")

    def test_by_chance(self):
        chance, seen = seeded(191), {}
        for _ in range(250):
            machine, = some_machines(chance, 1)
            self.assertIsNone(judge_machine(machine))
            points = all_points(machine)
            letters, places, start, moves, ends = machine
            tops = [top for many in (letters, places, moves, ends) for top in orbits(many, points)]
            draw = chance.random()
            if draw < 0.4:
                moves = chance.choice([join, less])(moves, made(points, chance.sample(orbits(moves, points), 1)))
            elif draw < 0.6:
                rows = orbits(moves, points)
                row = chance.choice(rows)
                moves = join(moves, made(points, [("row", *row[1:3], chance.choice(rows)[3])]))
            elif draw < 0.8:
                places = less(places, made(points, [chance.choice(tops)]))
            else:
                ends = join(ends, made(points, [chance.choice(tops)]))
            told = judge_machine((letters, places, start, moves, ends))
            self.check_told((letters, places, start, moves, ends), points, told)
            seen[told and told[0]] = seen.get(told and told[0], 0) + 1
        self.assertEqual(set(seen), {None, "start", "ends", "moves", "lacks", "twice"})

    def check_told(self, machine, points, told):
        letters, places, start, moves, ends = machine
        rows = orbits(moves, points)
        fine = [is_in(row[1], places) and is_in(row[2], letters) and is_in(row[3], places) for row in rows]
        heads = made(points, [("row", *row[1:3]) for row in rows])
        lacking = less(pairs(places, letters), heads)
        by_head = {}
        for row in rows:
            # Rows with their heads placed tell unlike ends if there are several, or if an end has points of its own.
            by_head.setdefault(("row", *row[1:3]), []).append(row[3])
        if not is_in(start, places):
            self.assertEqual(told, ("start",))
        elif less(ends, places) != EMPTY:
            self.assertEqual(told[0], "ends")
            self.assertTrue(is_in(told[1], ends) and not is_in(told[1], places))
        elif not all(fine):
            self.assertEqual(told[0], "moves")
            _, p, a, q = told[1]
            self.assertTrue(is_in(told[1], moves) and not (is_in(p, places) and is_in(a, letters) and is_in(q, places)))
        elif lacking != EMPTY:
            self.assertEqual(told[0], "lacks")
            self.assertTrue(is_in(("row", *told[1:]), lacking))
        elif told is not None:
            word, p, a, q, r = told
            self.assertTrue(word == "twice" and q != r and is_in(("row", p, a, q), moves) and is_in(("row", p, a, r), moves))
        else:
            for head, ends in by_head.items():
                self.assertEqual(len(ends), 1)
                self.assertLessEqual(set(support(ends[0])), set(points) | set(support(head)))


class RunWord(unittest.TestCase):
    def test_known_ones(self):
        self.assertEqual(run_word(RISES, [THREE, (7, 2), ONE]), ("none", THREE, (7, 2), "fell"))
        self.assertEqual(run_word(RISES, ((3, 1), (3, 1), (4, 1))), ("none", THREE, "fell", "fell"))
        self.assertEqual([run_word(RISES, []), run_word(RISES, ()), takes(RISES, []), takes(RISES, ()), takes(bent(RISES, ends=EMPTY), ())], [("none",), ("none",), True, True, False])
        self.assertEqual([takes(RISES, [ZERO, HALF, ONE]), takes(RISES, [ZERO, ONE, HALF]), takes(EVEN, "abab"), takes(EVEN, ["a", "b"])], [True, False, True, False])
        self.assertIs(type(run_word(RISES, [ONE])), tuple)
        self.assertEqual(run_word(bent(RISES, start=THREE), [(4, 1)]), (THREE, (4, 1)))
        long = [(k, 1) for k in range(20)]
        self.assertEqual(run_word(RISES, long), ("none", *long))
        self.assertEqual(run_word(RISES, [*long[:19], ZERO])[-1], "fell")

    def test_no_letter(self):
        for word, number in (([THREE, "up"], 1), (["up", "up"], 0), ([ONE, TWO, ("row", ONE)], 2), ((ONE, LINE, "up"), 1)):
            for call in (run_word, takes):
                with self.assertRaises(NoLetter) as caught:
                    call(RISES, word)
                self.assertEqual(caught.exception.number, number)
                self.assertIsInstance(caught.exception, NotThere)
        above = (made((ZERO,), [ONE]), only("a"), "a", made((ZERO,), [("row", "a", ONE, "a")]), EMPTY)
        with self.assertRaises(NoLetter) as caught:
            run_word(above, [ONE, HALF, ZERO])
        self.assertEqual(caught.exception.number, 2)
        self.assertEqual(run_word(above, [ONE, HALF]), ("a", "a", "a"))

    def test_by_chance(self):
        chance, taken = seeded(192), []
        for _ in range(200):
            machine, = some_machines(chance, 1)
            plain = Plain(machine, all_points(machine))
            word = some_word(chance, machine, chance.choice([0, 1, 2, 3, 5]))
            walk = run_word(machine, chance.choice([list, tuple])(word))
            self.assertEqual(list(walk), plain.walk(word))
            for place in walk:
                self.assertTrue(is_in(place, machine[1]))
            taken.append(takes(machine, word))
            self.assertEqual(taken[-1], plain.is_end(walk[-1]))
        self.assertGreater(min(taken.count(True), taken.count(False)), 30)


class OtherMachine(unittest.TestCase):
    def test_other(self):
        chance = seeded(193)
        for _ in range(60):
            machine, = some_machines(chance, 1)
            other = other_machine(machine)
            self.assertEqual(other[:4], machine[:4])
            self.assertEqual(other[4], less(machine[1], machine[4]))
            self.assertIsNone(judge_machine(other))
            self.assertEqual(other_machine(other), machine)
            word = some_word(chance, machine, 3)
            self.assertNotEqual(takes(machine, word), takes(other, word))

    def test_many_places_over_a_point(self):
        # 200 told places come to more than 600 orbits over the point of the ends; nothing is too many here.
        words = [a + b for a in "abcdefghijklmno" for b in "abcdefghijklmno"][:200]
        places = made((), [("row", word, ZERO, ONE) for word in words])
        ends = made((ZERO,), [("row", "aa", ZERO, ONE)])
        other = other_machine((EMPTY, places, ("row", "aa", ZERO, ONE), EMPTY, ends))
        self.assertRaises(TooMany, less, places, ends)
        self.assertEqual(other[4][1], (ZERO,))
        self.assertTrue(is_in(("row", "aa", ONE, TWO), other[4]) and is_in(("row", "bb", ZERO, ONE), other[4]))
        self.assertFalse(is_in(("row", "aa", ZERO, THREE), other[4]))


class TurnedMachine(unittest.TestCase):
    def test_known_ones(self):
        names = made((), [("row", ZERO, ("row", "at", ZERO))])
        turned = turned_machine(RISES, names)
        self.assertEqual([turned[0], turned[1:3], turned[4]], [made((), [("row", "at", ZERO)]), RISES[1:3], RISES[4]])
        self.assertIsNone(judge_machine(turned))
        self.assertEqual(run_word(turned, [("row", "at", TWO), ("row", "at", ONE)]), ("none", TWO, "fell"))
        self.assertRaises(NoLetter, run_word, turned, [TWO])
        self.assertEqual(turned_machine(turned, back(names)), RISES)
        swapped = turned_machine(EVEN, made((), [("row", "a", "b"), ("row", "b", "a")]))
        self.assertEqual([takes(swapped, "aab"), takes(swapped, "abb")], [False, True])

    def test_with_a_point(self):
        # Letters on the two sides of 0 and 0 itself are called otherwise.
        names = made((ZERO,), [("row", ZERO, "a"), ("row", ONE, ("row", "b", ONE)), ("row", (-1, 1), ("row", "c", (-1, 1)))])
        turned = turned_machine(RISES, names)
        self.assertIsNone(judge_machine(turned))
        self.assertEqual(run_word(turned, [("row", "c", (-1, 1)), "a", ("row", "b", ONE), ("row", "c", (-1, 1))]), ("none", (-1, 1), ZERO, ONE, "fell"))

    def test_by_chance(self):
        chance = seeded(194)
        for _ in range(60):
            machine, = some_machines(chance, 1)
            points = all_points(machine)
            tops = orbits(machine[0], points)
            names = made(points, [("row", top, ("row", chance.choice("xy") + str("abcdefghij"[at]), top)) for at, top in enumerate(tops)])
            self.assertEqual(firsts(names), machine[0])
            turned = turned_machine(machine, names)
            self.assertIsNone(judge_machine(turned))
            self.assertEqual(turned[0], seconds(names))
            word = some_word(chance, machine, 3)
            from_names = [next(row for row in orbits(names, merged_points(points, support(letter))) if row[1] == letter)[2] for letter in word]
            self.assertEqual(run_word(turned, from_names), run_word(machine, word))
            self.assertEqual(turned_machine(turned, back(names)), machine)
            for part in turned:
                check_value(part)


class MovedMachine(unittest.TestCase):
    def test_moved(self):
        chance = seeded(195)
        for _ in range(60):
            machine, = some_machines(chance, 1)
            points = all_points(machine)
            move = tuple((old, (3 * at - 7, 5)) for at, old in enumerate(points))
            led = moved_machine(machine, move)
            self.assertIs(type(led), tuple)
            self.assertEqual(led, tuple(moved(part, move) for part in machine))
            self.assertIsNone(judge_machine(led))
            word = some_word(chance, machine, 3)
            olds = ascending([*points, *[point for letter in word for point in support(letter)]])
            wide = tuple((old, (3 * at - 7, 5)) for at, old in enumerate(olds))
            self.assertEqual(run_word(moved_machine(machine, wide), [moved(letter, wide) for letter in word]), tuple(moved(place, wide) for place in run_word(machine, word)))
            self.assertEqual(moved(reached(machine), wide), reached(moved_machine(machine, wide)))

    def test_bad_move(self):
        self.assertEqual(moved_machine(RISES, ()), RISES)
        at_one = bent(RISES, start=ONE)
        self.assertRaises(BadMove, moved_machine, at_one, ())
        self.assertRaises(BadMove, moved_machine, at_one, ((ZERO, ONE),))
        self.assertEqual(moved_machine(at_one, ((ONE, TWO),)), bent(RISES, start=TWO))
        for name in ("places", "ends"):
            machine = bent(RISES, **{name: made((ONE,), ["none", ONE])})
            self.assertRaises(BadMove, moved_machine, machine, ((ZERO, ONE),))
            self.assertEqual(moved_machine(machine, ((ONE, TWO),)), bent(RISES, **{name: made((TWO,), ["none", TWO])}))


class Made(unittest.TestCase):
    def test_machines_made_by_chance_are_right(self):
        chance, points = seeded(196), []
        for _ in range(50):
            machine = some_machine(chance, (ONE,), made((), [ZERO]))
            self.assertIsNone(judge_machine(machine))
            points.append(len(all_points(machine)))
        self.assertIn(1, points)


if __name__ == "__main__":
    unittest.main()
