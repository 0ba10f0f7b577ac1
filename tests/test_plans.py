import unittest

from gapwise.algebra import is_within, join, less
from gapwise.bars import bars
from gapwise.errors import BadReply, LineError, NoMember, NotThere, TooMany
from gapwise.games import downs, ranks
from gapwise.making import EMPTY, LINE, is_in, made, orbits
from gapwise.maps import judge_map, two_seconds, value_at
from gapwise.picks import enough, judge_pick, picked, plenty
from gapwise.placing import moved
from gapwise.plans import book, judge_book, plan_with, play, ranks_with
from gapwise.points import gap_of, merged_points
from gapwise.products import firsts, seconds
from gapwise.reading import check_value
from gapwise.values import support
from tests.helping import copy_of, is_same_thing, seeded, some_points
from tests.plain_games import game_points, let_moves, plain_ranks, some_game
from tests.relations import HALF, ONE, THREE, TWO, ZERO
from tests.test_games import CLIMB, DUEL, UP, rows, words
from tests.test_rings import NO_PAPERS, NO_SETS

# From each of mine to another point, by its own choice.
UNLIKE = made((), [("row", ("row", "q", ZERO), ("row", "w", ONE)), ("row", ("row", "q", ONE), ("row", "w", ZERO))])
AWAY = (made((), [("row", "q", ZERO), ("row", "w", ZERO)]), LINE, UNLIKE, made((), [("row", "w", ZERO)]))
AWAY = (AWAY[0], AWAY[0], *AWAY[2:])


class Books(unittest.TestCase):
    def check_book(self, game, F):
        R = downs(game)
        check_value(F)
        self.assertTrue(is_within(F, R))
        self.assertEqual(firsts(F), firsts(R))
        self.assertIsNone(two_seconds(F))
        many = plenty(R)
        counts = [0] * len(many)
        for point in F[1]:
            if point not in R[1]:
                counts[gap_of(R[1], point)] += 1
        self.assertTrue(all(one <= other for one, other in zip(counts, many)))
        self.assertIsNone(judge_book(game, ("book", F)))

    def test_known_ones(self):
        self.assertEqual(book(DUEL), ("book", EMPTY))
        self.assertEqual(book(CLIMB), ("bar", ("row", "q", ZERO), (0,)))
        told = book(AWAY)
        self.assertEqual(told[0], "book")
        self.check_book(AWAY, told[1])
        self.assertEqual(len(told[1][1]), 2)
        chain = (words(*"abcg"), words(*"abcg"), rows("ab", "bc", "cg", "ac"), words("g"))
        self.assertEqual(book(chain)[1] in (rows("ab", "bc", "cg"), rows("ac", "bc", "cg")), True)
        # Nothing has to be known where a move leads to the place's own points.
        own = (AWAY[0], AWAY[0], join(UNLIKE, made((), [("row", ("row", "q", ZERO), ("row", "w", ZERO))])), AWAY[3])
        self.check_book(own, book(own)[1])

    def test_by_chance(self):
        chance, seen = seeded(251), []
        for _ in range(250):
            game = some_game(chance)
            if chance.random() < 0.3:
                places, mine, moves, goal = game
                points = game_points(game)
                far = [row for row in orbits(moves, points) if not is_in(row[1], mine) or not set(support(row[2])) <= set(points) | set(support(row[1]))]
                game = (places, mine, made(points, far), goal)
            R, told = downs(game), book(game)
            seen.append(told[0])
            if bars(R):
                self.assertIn(told[0], ("bar",))
                self.assertIsNone(judge_pick(R, told))
                self.assertIsNone(judge_book(game, told))
            else:
                self.assertEqual(told[0], "book")
                self.check_book(game, told[1])
        self.assertGreater(min(seen.count("book"), seen.count("bar")), 7)

    def test_nothing_is_too_many(self):
        # Two points in one of the three intervals: six points in each of three gaps have to be known.
        points = ((0, 1), (10, 1))
        pairs_in = [((-2, 1), (-1, 1)), ((1, 1), (2, 1)), ((11, 1), (12, 1))]
        apart = [((-1, 1), (1, 1)), ((-1, 1), (11, 1)), ((1, 1), (11, 1))]
        moves = [("row", ("row", one, other), ("row", "w", *pair)) for one, other in pairs_in for pair in beside(one, other)]
        # Of points in two gaps, to two points in the third one.
        moves.extend([("row", ("row", *pair), ("row", "w", *other)) for pair, other in zip(apart, pairs_in[::-1])])
        mine = made(points, [("row", *pair) for pair in (*pairs_in, *apart)])
        goal = made(points, [("row", "w", *pair) for pair in pairs_in])
        many = made(points, moves)
        game = (join(mine, goal), mine, many, goal)
        R = downs(game)
        self.assertEqual([R == many, plenty(R), bars(R)], [True, (6, 6, 6), []])
        told = book(game)
        self.check_book(game, told[1])
        held = merged_points(points, tuple((k, 7) for k in (*range(-6, 0), *range(1, 7), *range(71, 77))))
        self.assertIsNone(enough(R, held))
        self.assertRaises(TooMany, picked, R, held)


def beside(one, other):
    """For each of the intervals that two points make of their gap a pair of points in it."""
    low, high = one[0], other[0]
    return [((3 * low - 2, 3), (3 * low - 1, 3)), ((3 * low + 1, 3), (3 * low + 2, 3)), ((3 * high + 1, 3), (3 * high + 2, 3))]


class JudgeBook(unittest.TestCase):
    def test_forms(self):
        R = downs(AWAY)
        for value in (*NO_PAPERS, *[("book", one) for one in NO_SETS], ("book", LINE), ("book", made((), [("row", "a", "b", "c")])), ("book", made((), [("row", "a")])), ("points", ()), ("points", (ZERO, ONE)),
                      ("bar", ("row", "q", ZERO)), ("bar", ("row", "q", ZERO), [0]), ["bar", ("row", "q", ZERO), (0,)], ("bar", ["row", "q", ZERO], (0,)), ("bar", ("row", "q", ZERO), (0, 0)), ("bar", ("row", "q", ZERO), (True,)),
                      ("bar", ("row",), (0,)), ("book", EMPTY, ())):
            self.assertEqual(judge_book(AWAY, value), ("form",), value)
        self.assertIsNone(judge_pick(R, ("points", (ZERO, ONE))))

    def test_books(self):
        told = book(AWAY)[1]
        self.assertIsNone(judge_book(AWAY, ("book", told)))
        self.assertEqual(judge_book(AWAY, ("book", EMPTY))[0], "lacks")
        word, p = judge_book(AWAY, ("book", made((ZERO,), [("row", ("row", "q", ONE), ("row", "w", ZERO))])))
        self.assertEqual([word, p in (("row", "q", ZERO), ("row", "q", (-1, 1)))], ["lacks", True])
        word, p, q = judge_book(AWAY, ("book", join(told, made((), [("row", ("row", "q", ZERO), ("row", "w", ZERO))]))))
        self.assertEqual([word, p[1], q[1], p[2] == q[2]], ["move", "q", "w", True])
        word, p = judge_book(AWAY, ("book", UNLIKE))
        self.assertEqual([word, p[1]], ["twice", "q"])
        self.assertEqual(judge_book(DUEL, ("book", EMPTY)), None)
        self.assertEqual(judge_book(DUEL, ("book", DUEL[2]))[0], "move")
        self.assertEqual(judge_book(CLIMB, ("book", UP)), ("twice", judge_book(CLIMB, ("book", UP))[1]))
        self.assertEqual(judge_book(CLIMB, ("book", made((), [("row", "p", "p")]))), ("move", "p", "p"))

    def test_bars(self):
        self.assertIsNone(judge_book(CLIMB, ("bar", ("row", "q", (5, 1)), (0,))))
        self.assertEqual(judge_book(CLIMB, ("bar", ("row", "q", (5, 1)), (2,))), ("choice", 0))
        self.assertEqual(judge_book(CLIMB, ("bar", ("row", "q", (5, 1)), (-1,))), ("choice", 0))
        self.assertEqual(judge_book(CLIMB, ("bar", ("row", "w", (5, 1)), (0,))), ("first",))
        word, y = judge_book(CLIMB, ("bar", ("row", "q", ONE), (1,)))
        self.assertEqual([word, is_in(("row", ("row", "q", ONE), y), UP)], ["fits", True])
        self.assertEqual(judge_book(CLIMB, ("bar", "p", (0,)))[0], "fits")

    def test_bent_books(self):
        chance, seen = seeded(252), {}
        for _ in range(300):
            game = some_game(chance)
            R, told = downs(game), book(game)
            F = told[1] if told[0] == "book" else R
            for _ in range(chance.choice([0, 1, 1])):
                points = merged_points(F[1], some_points(chance, chance.choice([0, 1])))
                tops = [*orbits(F, points), *orbits(R, R[1]), *orbits(game[2], game_points(game))] or [("row", "a", "b")]
                F = chance.choice([join, less])(F, made(merged_points(points, game_points(game)), [chance.choice(tops)]))
            told = judge_book(game, ("book", F))
            if not is_within(F, R):
                self.assertEqual(told[0], "move")
                self.assertTrue(is_in(("row", *told[1:]), less(F, R)))
            elif firsts(F) != firsts(R):
                self.assertEqual(told[0], "lacks")
                self.assertTrue(is_in(told[1], less(firsts(R), firsts(F))))
            elif judge_map(F, firsts(F), seconds(F)) is not None:
                self.assertEqual(told[0], "twice")
                held = merged_points(F[1], support(told[1]))
                seconds_there = [row[2] for row in orbits(F, held) if row[1] == told[1]]
                self.assertTrue(len(seconds_there) > 1 or not set(support(seconds_there[0])) <= set(held))
            else:
                self.assertIsNone(told)
            seen[told and told[0]] = seen.get(told and told[0], 0) + 1
        self.assertEqual(set(seen), {None, "move", "lacks", "twice"})


class Plans(unittest.TestCase):
    def test_known_ones(self):
        self.assertEqual([len(ranks_with(CLIMB, ())), plan_with(CLIMB, ())], [1, EMPTY])
        self.assertEqual(ranks_with(CLIMB, (ZERO, ONE))[1:], [made((ONE,), [("row", "q", ZERO)]), words("p")])
        self.assertEqual(ranks_with(CLIMB, (ZERO,)), [ranks(CLIMB)[0], made((ZERO,), [("row", "q", (-1, 1))])])
        plan = plan_with(CLIMB, (ZERO, ONE))
        self.assertEqual([value_at(plan, "p"), value_at(plan, ("row", "q", ZERO)), value_at(plan, ("row", "q", (-1, 1)))[2] in (ZERO, ONE)], [("row", "q", ZERO), ("row", "w", ONE), True])
        self.assertRaises(NoMember, value_at, plan, ("row", "q", ONE))
        self.assertEqual([ranks_with((EMPTY,) * 4, (ZERO,)), plan_with(DUEL, (ONE,))], [[], EMPTY])
        # His moves count, whatever their points.
        his = (CLIMB[0], words("p"), UP, CLIMB[3])
        self.assertEqual([len(ranks_with(his, ())), len(ranks_with(his, (ZERO,)))], [2, 3])

    def test_by_chance(self):
        chance, seen = seeded(253), {}
        for _ in range(200):
            game = some_game(chance)
            points = some_points(chance, chance.choice([0, 1, 2, 3]))
            held = merged_points(game_points(game), points)
            try:
                moves = let_moves(game, points)
                sets, _ = plain_ranks(game, moves)
            except TooMany:
                continue
            told = ranks_with(game, points)
            self.assertEqual(told, sets)
            self.check_plan(game, moves, held, sets, plan_with(game, points))
            for one, other in zip(ranks_with(game, ()), told):
                self.assertTrue(is_within(one, join_all(told)))
            if enough(downs(game), points) is None:
                self.assertEqual(join_all(told), join_all(ranks(game)))
                seen["enough"] = seen.get("enough", 0) + 1
            seen[len(sets)] = seen.get(len(sets), 0) + 1
        self.assertLessEqual({0, 1, 2, 3, "enough"}, set(seen))

    def check_plan(self, game, moves, held, sets, plan):
        check_value(plan)
        self.assertTrue(is_within(plan, moves))
        self.assertLessEqual(set(plan[1]), set(held))
        self.assertIsNone(two_seconds(plan))
        wanted = EMPTY
        for many in sets[1:]:
            wanted = join(wanted, less(many, less(many, game[1])))
        self.assertEqual(firsts(plan), wanted)
        for row in orbits(plan, held):
            rank = [is_in(row[1], many) for many in sets].index(True)
            self.assertTrue(any(is_in(row[2], many) for many in sets[:rank]))

    def test_many_orbits(self):
        # Five points, and pairs of which both points may be told anew: more than 600 orbits.
        words_for = "abcdef"
        mine = made((), [("row", word, ZERO, ONE) for word in words_for])
        game = (join(mine, words("g")), mine, made((), [("row", ("row", word, ZERO, ONE), "g") for word in words_for[:3]] + [("row", ("row", word, ZERO, ONE), ("row", "a", ZERO, ONE)) for word in words_for[3:]]), words("g"))
        points = tuple((k, 1) for k in range(6))
        plan = plan_with(game, points)
        self.assertEqual(plan, downs(game))
        self.assertEqual(len(ranks_with(game, points)), 3)


def join_all(sets):
    whole = EMPTY
    for many in sets:
        whole = join(whole, many)
    return whole


class Play(unittest.TestCase):
    def test_known_ones(self):
        plan = plan_with(CLIMB, (ZERO, ONE))
        self.assertEqual(play(CLIMB, plan, "p", []), ["p", ("row", "q", ZERO), ("row", "w", ONE)])
        self.assertEqual(play(CLIMB, plan, ("row", "w", THREE), ["x"]), [("row", "w", THREE)])
        self.assertEqual(play(CLIMB, plan, ("row", "q", THREE), []), [("row", "q", THREE)])
        self.assertEqual(play(CLIMB, EMPTY, "p", []), ["p"])
        self.assertIs(type(play(CLIMB, plan, "p", ())), list)

    def test_replies(self):
        self.assertEqual(play(DUEL, EMPTY, HALF, []), [HALF])
        self.assertEqual(play(DUEL, EMPTY, (-3, 1), [(-1, 1), (-1, 2), ZERO, ONE]), [(-3, 1), (-1, 1), (-1, 2), ZERO])
        self.assertEqual(play(DUEL, EMPTY, HALF, (ONE, TWO)), [HALF, ONE, TWO])
        for replies, number in (([ONE, HALF], 1), (["a"], 0), ([None], 0), ([[1, 1]], 0), ([ONE, True], 1), ([ONE, (4, 2)], 1), ([ONE, TWO, ("row",)], 2), ([{"a": []}], 0), ([(True, 1)], 0)):
            with self.assertRaises(BadReply) as caught:
                play(DUEL, EMPTY, HALF, replies)
            self.assertEqual(caught.exception.number, number)
            self.assertIsInstance(caught.exception, LineError)
        # What is not taken is not looked at.
        self.assertEqual(play(DUEL, EMPTY, ZERO, [None]), [ZERO])
        self.assertEqual(play(DUEL, EMPTY, (-1, 1), [ZERO, None]), [(-1, 1), ZERO])
        mixed = (words(*"abcg"), words("a", "c"), rows("ab", "ba", "bc", "cg"), words("g"))
        plan = plan_with(mixed, ())
        self.assertEqual(plan, rows("cg"))
        self.assertEqual(play(mixed, plan, "b", ["c", "b"]), ["b", "c", "g"])
        self.assertEqual(play(mixed, plan, "b", ["a", "c"]), ["b", "a"])
        self.assertEqual(play(mixed, plan, "b", []), ["b"])
        with self.assertRaises(BadReply) as caught:
            play(mixed, plan, "b", ["g"])
        self.assertEqual(caught.exception.number, 0)

    def test_no_member(self):
        for place in ("a", ("row", ZERO), None, True, [0, 1], {"a": [1]}, (2, 2), (), ("row",), (True, 1), ("row", ("row", ("row", ("row", ("row", "a"))))), LINE):
            with self.assertRaises(NoMember) as caught:
                play(DUEL, EMPTY, place, [None])
            self.assertTrue(is_same_thing(caught.exception.value, place))
            self.assertIsInstance(caught.exception, NotThere)
        place = [0, [1]]
        with self.assertRaises(NoMember) as caught:
            play(DUEL, EMPTY, place, [])
        self.assertIsNot(caught.exception.value, place)
        self.assertIsNot(caught.exception.value[1], place[1])

    def test_by_chance(self):
        chance, ends = seeded(254), {}
        for _ in range(150):
            game = some_game(chance)
            places, mine, moves, goal = game
            points = some_points(chance, chance.choice([0, 1, 2]))
            told = book(game)
            plan = told[1] if told[0] == "book" and chance.random() < 0.5 else plan_with(game, points)
            held = merged_points(merged_points(plan[1], game_points(game)), some_points(chance, 2))
            place = chance.choice(orbits(places, held))
            replies, now = [], place
            expected = [place]
            while not is_in(now, goal) and len(expected) < 12:
                options = [row[2] for row in orbits(plan if is_in(now, mine) else moves, merged_points(held, support(now))) if row[1] == now]
                if not options:
                    break
                now = chance.choice(options)
                if not is_in(expected[-1], mine):
                    replies.append(now)
                expected.append(now)
            kept = copy_of(replies)
            self.assertEqual(play(game, plan, place, replies), expected)
            self.assertEqual(replies, kept)
            end = "goal" if is_in(now, goal) else "mine" if is_in(now, mine) else "his"
            ends[end] = ends.get(end, 0) + 1
        self.assertEqual(set(ends), {"goal", "mine", "his"})

    def test_moved(self):
        move = ((ZERO, (-7, 2)), (ONE, THREE))
        led = tuple(moved(many, move) for many in CLIMB)
        self.assertEqual([moved(many, move) for many in ranks_with(CLIMB, (ZERO, ONE))], ranks_with(led, ((-7, 2), THREE)))
        self.assertEqual(moved(plan_with(CLIMB, (ZERO, ONE)), move), plan_with(led, ((-7, 2), THREE)))


if __name__ == "__main__":
    unittest.main()
