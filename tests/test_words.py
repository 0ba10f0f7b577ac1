import unittest

from gapwise.algebra import both, join, less
from gapwise.errors import TooMany
from gapwise.making import EMPTY, LINE, is_in, made, orbits
from gapwise.machines import judge_machine, other_machine, run_word, takes
from gapwise.placing import moved, placed
from gapwise.points import make_point, merged_points
from gapwise.products import pairs
from gapwise.reading import check_value
from gapwise.values import support, value_text
from gapwise.words import alike_machines, both_machines, either_machine, first_word, judge_alike, reached, word_to
from tests.helping import ascending, seeded
from tests.plain_machines import Plain, all_points, pair_levels, some_machines, some_word, two_plain
from tests.relations import HALF, ONE, THREE, TWO, ZERO, only
from tests.test_machines import EVEN, PLACES, RISES, bent

LETTERS = "abcdefghijklmnopqrstuvwxyz"


def counter(many, ends, letters=1):
    """The machine that counts letters round to many; its ends are these counts."""
    names = [LETTERS[k // 26] + LETTERS[k % 26] for k in range(many)]
    words = LETTERS[:letters]
    moves = [("row", names[k], word, names[(k + 1) % many]) for k in range(many) for word in words]
    return (made((), list(words)), made((), names), "aa", made((), moves), made((), [names[k] for k in ends]))


class Reached(unittest.TestCase):
    def test_known_ones(self):
        self.assertEqual([reached(RISES), word_to(RISES, (5, 1)), word_to(RISES, "none"), word_to(RISES, "up"), word_to(RISES, ("row", ONE, TWO))], [PLACES, ((5, 1),), (), None, None])
        word = word_to(RISES, "fell")
        self.assertEqual([len(word), run_word(RISES, word)[-1]], [2, "fell"])
        self.assertEqual(reached(counter(5, [])), made((), ["aa", "ab", "ac", "ad", "ae"]))
        self.assertEqual(word_to(counter(5, []), "ad"), ("a", "a", "a"))
        # Where no letter lies, no word leads on.
        stuck = (EMPTY, PLACES, "none", EMPTY, PLACES)
        self.assertEqual([reached(stuck), word_to(stuck, "fell"), word_to(stuck, "none"), first_word(stuck)], [only("none"), None, (), ()])

    def test_a_start_that_alone_hangs_on_a_point(self):
        # Rises from the start on, by letters alone: what lies below the start is never reached.
        up = (LINE, join(LINE, only("fell")), TWO, made((), [("row", ZERO, ONE, ONE), ("row", ZERO, ZERO, "fell"), ("row", ONE, ZERO, "fell"), ("row", "fell", ZERO, "fell")]), EMPTY)
        self.assertIsNone(judge_machine(up))
        self.assertEqual(reached(up), made((TWO,), [TWO, THREE, "fell"]))
        self.assertEqual([word_to(up, TWO), word_to(up, THREE), word_to(up, ONE), first_word(up)], [(), (THREE,), None, None])

    def test_ends_that_alone_hang_on_a_point(self):
        machine = bent(RISES, ends=made((TWO,), [THREE]))
        word = first_word(machine)
        self.assertEqual(len(word), 1)
        self.assertTrue(takes(machine, word))
        self.assertEqual([first_word(bent(RISES, ends=only(TWO))), reached(bent(RISES, ends=only(TWO)))], [(TWO,), PLACES])
        word, parted = alike_machines(machine, bent(RISES, ends=made((TWO,), [TWO, THREE])))
        self.assertEqual((word, parted), ("word", (TWO,)))

    def test_by_chance(self):
        chance, far = seeded(201), {}
        for _ in range(150):
            machine, = some_machines(chance, 1)
            points = all_points(machine)
            plain = Plain(machine, points)
            levels = plain.levels()
            values = [value for level in levels for value in level]
            self.assertEqual(reached(machine), made(points, values))
            check_value(reached(machine))
            for number, level in enumerate(levels):
                for value in level:
                    held = tuple((point[0] + point[1], point[1]) for point in support(value))
                    far[number] = far.get(number, 0) + 1
                    for place in (value, self.led_beside(value, points), placed(value, merged_points(points, held))):
                        word = word_to(machine, place)
                        self.assertIs(type(word), tuple)
                        self.assertEqual(len(word), number)
                        self.assertEqual(run_word(machine, word)[-1], place)
            for place in orbits(machine[1], points):
                if not is_in(place, reached(machine)):
                    self.assertIsNone(word_to(machine, place))
                    far[None] = far.get(None, 0) + 1
            ends = [number for number, level in enumerate(levels) if any(plain.is_end(value) for value in level)]
            word = first_word(machine)
            if ends:
                self.assertEqual(len(word), ends[0])
                self.assertTrue(takes(machine, word))
            else:
                self.assertIsNone(word)
        self.assertLessEqual({0, 1, 2, None}, set(far))

    def led_beside(self, value, points):
        """The value with its points beside points led a bit upwards, alike to it over points."""
        move = tuple((point, point if point in points else (3 * point[0] + point[1], 3 * point[1])) for point in ascending([*support(value), *points]))
        news = ascending([make_point(*new) for _, new in move])
        if len(news) < len(move) or any(make_point(*new) in points for old, new in move if old not in points):
            return value
        led = moved(value, tuple((old, make_point(*new)) for old, new in move))
        return led if placed(led, points) == placed(value, points) else value


class Alike(unittest.TestCase):
    def test_known_ones(self):
        self.assertEqual(alike_machines(RISES, other_machine(RISES)), ("word", ()))
        self.assertEqual(alike_machines(RISES, RISES), ("alike", made((), [("row", place, place) for place in ("none", ZERO, "fell")])))
        self.assertEqual(alike_machines(counter(2, [0]), counter(4, [0, 2]))[0], "alike")
        self.assertEqual(alike_machines(counter(2, [0]), counter(4, [0])), ("word", ("a", "a")))
        self.assertEqual(alike_machines(counter(6, [5]), counter(6, [])), ("word", ("a",) * 5))
        self.assertEqual(alike_machines(counter(20, [19], 2), counter(20, [], 2))[0], "word")
        self.assertEqual(len(alike_machines(counter(20, [19], 2), counter(20, [], 2))[1]), 19)
        # Another way to take the words that rise.
        pair = (LINE, made((), ["none", ("row", ZERO, "up"), ("row", ZERO, "down")]), "none",
                made((), [("row", "none", ZERO, ("row", ZERO, "up")), ("row", ("row", ZERO, "up"), ONE, ("row", ONE, "up")), ("row", ("row", ONE, "up"), ZERO, ("row", ONE, "down")),
                          ("row", ("row", ZERO, "up"), ZERO, ("row", ZERO, "down")), ("row", ("row", ZERO, "down"), ONE, ("row", ZERO, "down")), ("row", ("row", ONE, "down"), ZERO, ("row", ONE, "down")),
                          ("row", ("row", ZERO, "down"), ZERO, ("row", ZERO, "down"))]), made((), ["none", ("row", ZERO, "up")]))
        self.assertIsNone(judge_machine(pair))
        for one, other in ((RISES, pair), (pair, RISES)):
            paper = alike_machines(one, other)
            self.assertEqual(paper[0], "alike")
            self.assertIsNone(judge_alike(one, other, paper))
        keeps = bent(pair, moves=join(less(pair[3], made((), [("row", ("row", ZERO, "up"), ZERO, ("row", ZERO, "down"))])), made((), [("row", ("row", ZERO, "up"), ZERO, ("row", ZERO, "up"))])))
        word, parted = alike_machines(RISES, keeps)
        self.assertEqual([word, len(parted), parted[0] == parted[1]], ["word", 2, True])

    def test_by_chance(self):
        chance, seen = seeded(202), {}
        for _ in range(150):
            one, other = some_machines(chance, 2, True)
            if chance.random() < 0.3:
                other = bent(one, ends=chance.choice([one[4], both(one[4], reached(one)), join(one[4], less(one[1], reached(one)))]))
            plains = two_plain(one, other)
            try:
                paper = alike_machines(one, other)
            except TooMany:
                continue
            parting = [number for number, level in enumerate(pair_levels(*plains)) if any(plains[0].is_end(row[1]) != plains[1].is_end(row[2]) for row in level)]
            self.assertIsNone(judge_alike(one, other, paper))
            if parting:
                self.assertEqual([paper[0], len(paper[1])], ["word", parting[0]])
                self.assertIs(type(paper[1]), tuple)
                self.assertNotEqual(takes(one, paper[1]), takes(other, paper[1]))
            else:
                self.assertEqual(paper[0], "alike")
                check_value(paper[1])
            key = parting[0] if parting else "alike"
            seen[key] = seen.get(key, 0) + 1
        self.assertLessEqual({0, 1, 2, "alike"}, set(seen))


class JudgeAlike(unittest.TestCase):
    def test_pairs(self):
        one, other = counter(2, [0]), counter(4, [0, 2])
        right = alike_machines(one, other)[1]
        self.assertIsNone(judge_alike(one, other, ("alike", right)))
        for m in ("a", ("row", "aa"), ("row", "aa", "aa", "aa"), ("row", "ac", "aa"), ("row", "aa", "ae"), ZERO, LINE):
            word, told = judge_alike(one, other, ("alike", join(right, made((), [m]))))
            self.assertEqual([word, is_in(told, made((), [m]))], ["pairs", True])
        self.assertEqual(judge_alike(one, other, ("alike", EMPTY)), ("start",))
        self.assertEqual(judge_alike(one, other, ("alike", less(right, only(("row", "aa", "aa"))))), ("start",))
        self.assertEqual(judge_alike(one, other, ("alike", less(right, only(("row", "aa", "ac"))))), ("step", "ab", "ab", "a"))
        self.assertEqual(judge_alike(one, bent(other, ends=only("aa")), ("alike", right)), ("ends", "aa", "ac"))
        self.assertEqual(judge_alike(one, bent(other, ends=only("aa")), ("alike", less(right, only(("row", "ab", "ab")))))[0], "step")
        # More pairs than are needed.
        more = join(right, made((), [("row", "ab", "ad"), ("row", "ab", "ab")]))
        self.assertIsNone(judge_alike(one, other, ("alike", more)))
        self.assertEqual(judge_alike(one, other, ("alike", pairs(one[1], other[1])))[0], "ends")

    def test_pairs_with_a_point_of_their_own(self):
        right = alike_machines(RISES, RISES)[1]
        word, p, q, a = judge_alike(RISES, RISES, ("alike", less(right, only(("row", ONE, ONE)))))
        self.assertEqual([word, p, q, a], ["step", p, p, ONE])
        whole = join(right, only(("row", "fell", "fell")))
        self.assertIsNone(judge_alike(RISES, RISES, ("alike", whole)))
        self.assertEqual(judge_alike(RISES, RISES, ("alike", join(right, made((ONE,), [("row", TWO, ONE)]))))[0], "step")
        self.assertEqual(judge_alike(RISES, RISES, ("alike", join(right, made((ONE,), [("row", ONE, "none")]))))[0], "step")
        self.assertEqual(judge_alike(RISES, RISES, ("alike", join(right, made((ONE,), [("row", ONE, ("row", ONE))])))), ("pairs", ("row", ONE, ("row", ONE))))

    def test_words(self):
        one, other = counter(2, [0]), counter(4, [0])
        self.assertIsNone(judge_alike(one, other, ("word", ("a", "a"))))
        self.assertIsNone(judge_alike(one, other, ("word", ("a",) * 6)))
        self.assertEqual(judge_alike(one, other, ("word", ("a",) * 4)), ("taken",))
        self.assertEqual(judge_alike(one, other, ("word", ("a",))), ("taken",))
        self.assertEqual(judge_alike(one, other, ("word", ())), ("taken",))
        self.assertEqual(judge_alike(one, other, ("word", ("a", "b", "c"))), ("letter", 1))
        self.assertEqual(judge_alike(RISES, RISES, ("word", (ONE, TWO, "up"))), ("letter", 2))

    def test_bent_pairs(self):
        chance, seen = seeded(203), {}
        for _ in range(250):
            one, other = some_machines(chance, 2, True)
            if chance.random() < 0.5:
                other = one
            plains = two_plain(one, other)
            points = plains[0].points
            levels = pair_levels(*plains)
            rows = [row for level in levels for row in level]
            many = made(points, rows)
            beside = orbits(chance.choice([pairs(one[1], other[1]), many]), points)
            draw, other_rows = chance.random(), made(points, [chance.choice(beside)])
            if 0.6 <= draw < 0.75:
                other_rows = only(chance.choice(beside))
            try:
                if draw < 0.75:
                    many = (join if draw < 0.3 else less if draw < 0.6 else chance.choice([join, less]))(many, other_rows)
            except TooMany:
                continue
            told = judge_alike(one, other, ("alike", many))
            self.check_told(plains, one, other, many, told)
            seen[told and told[0]] = seen.get(told and told[0], 0) + 1
        self.assertEqual(set(seen) - {"pairs"}, {None, "start", "step", "ends"})

    def check_told(self, plains, one, other, many, told):
        points = merged_points(plains[0].points, many[1])
        starts = ("row", one[2], other[2])
        steps, ends = [], []
        for row in orbits(many, points):
            _, p, q = row
            for letter in orbits(one[0], merged_points(points, support(row))):
                if not is_in(("row", plains[0].behind(p, letter), plains[1].behind(q, letter)), many):
                    steps.append(row)
            if plains[0].is_end(p) != plains[1].is_end(q):
                ends.append(row)
        if not is_in(starts, many):
            self.assertEqual(told, ("start",))
        elif steps:
            word, p, q, a = told
            self.assertEqual(word, "step")
            self.assertTrue(is_in(("row", p, q), many) and is_in(a, one[0]))
            self.assertFalse(is_in(("row", plains[0].behind(p, a), plains[1].behind(q, a)), many))
        elif ends:
            word, p, q = told
            self.assertEqual(word, "ends")
            self.assertTrue(is_in(("row", p, q), many) and plains[0].is_end(p) != plains[1].is_end(q))
        else:
            self.assertIsNone(told)


class Joined(unittest.TestCase):
    def test_known_ones(self):
        self.assertIsNone(first_word(both_machines(RISES, other_machine(RISES))))
        two, three = counter(2, [0]), counter(3, [0])
        six = both_machines(two, three)
        self.assertEqual([len(six[1][2]), six[2], six[4]], [6, ("row", "aa", "aa"), only(("row", "aa", "aa"))])
        self.assertEqual(len(either_machine(two, three)[4][2]), 4)
        # Pairs to which no word leads are no places.
        self.assertEqual(len(both_machines(counter(4, [0]), counter(6, [0]))[1][2]), 12)
        self.assertEqual(len(either_machine(two, two)[1][2]), 2)

    def test_by_chance(self):
        chance, many_points = seeded(204), []
        for _ in range(120):
            one, other = some_machines(chance, 2, True)
            plains = two_plain(one, other)
            points = plains[0].points
            rows = [row for level in pair_levels(*plains) for row in level]
            word = some_word(chance, one, chance.choice([0, 1, 2, 4]))
            for call, fits in ((both_machines, all), (either_machine, any)):
                told = call(one, other)
                self.assertEqual([told[0], told[1], told[2]], [one[0], made(points, rows), ("row", one[2], other[2])])
                self.assertEqual(told[4], made(points, [row for row in rows if fits([plains[0].is_end(row[1]), plains[1].is_end(row[2])])]))
                moves = [("row", row, letter, ("row", plains[0].behind(row[1], letter), plains[1].behind(row[2], letter))) for row in rows for letter in plains[0].letters_at(row)]
                self.assertEqual(told[3], made(points, moves))
                self.assertIsNone(judge_machine(told))
                self.assertEqual(takes(told, word), fits([takes(one, word), takes(other, word)]))
                self.assertEqual(reached(told), told[1])
            many_points.append(max(len(support(row)) for row in rows))
        self.assertGreater(max(many_points), 2)

    def test_made_machines_go_on(self):
        one, other = counter(2, [0]), counter(3, [0])
        word = first_word(other_machine(either_machine(one, other)))
        self.assertEqual(word, ("a",))
        self.assertEqual(alike_machines(other_machine(both_machines(one, other)), either_machine(other_machine(one), other_machine(other)))[0], "alike")
        self.assertEqual(first_word(other_machine(either_machine(other_machine(one), other_machine(other)))), ())


class Many(unittest.TestCase):
    def test_just_above_600(self):
        # 600 pairs of counts, and 25 times 26 of them.
        self.assertEqual(len(both_machines(counter(24, [0]), counter(25, [0]))[1][2]), 600)
        self.assertEqual(alike_machines(counter(24, [0]), counter(25, [0])), ("word", ("a",) * 24))
        for call in (alike_machines, both_machines, either_machine):
            self.assertRaises(TooMany, call, counter(25, [0]), counter(26, [0]))
        # The empty word alone would part these.
        self.assertRaises(TooMany, alike_machines, counter(25, [0]), counter(26, [1]))
        self.assertEqual(len(both_machines(counter(25, [0]), counter(50, [0]))[1][2]), 50)
        for call in (reached, first_word, judge_machine, other_machine):
            call(counter(200, [0]))

    def test_orbits_over_the_points_of_all_parts(self):
        # The points of two machines that differ in their ends alone part the pairs of places.
        one, other = bent(RISES, ends=only(ONE)), bent(RISES, ends=EMPTY)
        self.assertEqual(alike_machines(one, other), ("word", (ONE,)))
        self.assertEqual(both_machines(one, other)[1], made((), [("row", place, place) for place in ("none", ZERO, "fell")]))


class Greatest(unittest.TestCase):
    def test_many_moves(self):
        names = [a + b for a in LETTERS[:5] for b in LETTERS[:5]][:24]
        words = LETTERS[:8]
        machines = []
        for step in (5, 7):
            moves = [("row", names[k], words[at], names[(k * step + at) % 24]) for k in range(24) for at in range(8)]
            machines.append((made((), list(words)), made((), names), "aa", made((), moves), made((), names[::2])))
        told = both_machines(*machines)
        self.assertIsNone(judge_machine(told))
        self.assertEqual([judge_alike(*machines, alike_machines(*machines)), takes(told, words * 2)], [None, takes(machines[0], words * 2) and takes(machines[1], words * 2)])

    def test_texts(self):
        # What is put together from parts is written as it is.
        machine = both_machines(bent(RISES, start=HALF), RISES)
        for many in (machine[1], machine[3]):
            self.assertEqual(list(many[2]), sorted(many[2], key=value_text))
            check_value(many)


if __name__ == "__main__":
    unittest.main()
