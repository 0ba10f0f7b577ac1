import unittest

from gapwise.algebra import both, is_within, join, less
from gapwise.errors import TooMany
from gapwise.games import downs, judge_lost, lost, ranks
from gapwise.making import EMPTY, LINE, is_in, made, orbits
from gapwise.maps import back, image
from gapwise.placing import moved
from gapwise.points import merged_points
from gapwise.products import firsts, pairs
from gapwise.reading import check_value
from gapwise.values import support
from tests.helping import seeded, some_points
from tests.plain_games import game_points, plain_ranks, some_game
from tests.relations import ONE, THREE, TWO, ZERO, only, some_part

DUEL = (LINE, EMPTY, made((), [("row", ZERO, ONE)]), only(ZERO))
CLIMB_PLACES = made((), ["p", ("row", "q", ZERO), ("row", "w", ZERO)])
UP = made((), [("row", "p", ("row", "q", ZERO)), ("row", ("row", "q", ZERO), ("row", "w", ONE))])
CLIMB = (CLIMB_PLACES, CLIMB_PLACES, UP, made((), [("row", "w", ZERO)]))


def words(*many):
    return made((), list(many))


def rows(*many):
    return made((), [("row", one[0], one[1]) for one in many])


class Ranks(unittest.TestCase):
    def test_known_ones(self):
        self.assertEqual([ranks(DUEL), lost(DUEL)], [[only(ZERO)], made((ZERO,), [(-1, 1), ONE])])
        self.assertEqual([ranks(CLIMB), lost(CLIMB)], [[made((), [("row", "w", ZERO)]), made((), [("row", "q", ZERO)]), words("p")], EMPTY])
        self.assertEqual([ranks((EMPTY,) * 4), lost((EMPTY,) * 4), ranks((LINE, LINE, EMPTY, EMPTY)), lost((LINE, LINE, EMPTY, EMPTY))], [[], EMPTY, [], LINE])
        # Of mine one move is enough, of his all of them lead there; without a move his place has no rank.
        moves = rows("ag", "ax", "bg", "bx", "cg", "ca", "dg", "xx", "gb")
        self.assertEqual(ranks((words(*"abcdegx"), words("a"), moves, words("g"))), [words("g"), words("a", "d"), words("c")])
        self.assertEqual(lost((words(*"abcdegx"), words("a"), moves, words("g"))), words("b", "e", "x"))
        self.assertEqual(ranks((words(*"abcdegx"), words(*"abcde"), moves, words("g"))), [words("g"), words("a", "b", "c", "d")])
        # The goal's own moves do not count, nor do longer ways.
        self.assertEqual(ranks((words(*"abc"), words(*"abc"), rows("ab", "bc", "ac", "ca"), words("c"))), [words("c"), words("a", "b")])
        self.assertEqual(ranks((words(*"abc"), EMPTY, rows("ab", "bc", "ac"), words("c"))), [words("c"), words("b"), words("a")])

    def test_his_moves_to_many_points(self):
        # From q he moves to any point above: they must all have ranks.
        up = made((), [("row", ("row", "q", ZERO), ONE)])
        places = made((), [ZERO, ("row", "q", ZERO)])
        for goal, kept in ((LINE, made((), [("row", "q", ZERO)])), (made((ZERO,), [ONE]), made((ZERO,), [("row", "q", ZERO), ("row", "q", ONE)])), (made((ZERO,), [ZERO, (-1, 1)]), EMPTY)):
            told = ranks((places, EMPTY, up, goal))
            self.assertEqual(told[1:], [kept] if kept != EMPTY else [])
            told = ranks((places, places, up, goal))
            self.assertEqual(len(told), 2)
        self.assertEqual(ranks((places, places, up, only(ZERO)))[1], made((ZERO,), [("row", "q", (-1, 1))]))

    def test_told_lists_are_new(self):
        first = ranks(CLIMB)
        first.clear()
        self.assertEqual(len(ranks(CLIMB)), 3)

    def test_by_chance(self):
        chance, seen = seeded(241), {}
        for _ in range(200):
            game = some_game(chance)
            sets, left = plain_ranks(game, game[2])
            told = ranks(game)
            self.assertIs(type(told), list)
            self.assertEqual([told, lost(game)], [sets, left])
            for many in [*told, lost(game)]:
                check_value(many)
            self.assertIsNone(judge_lost(game, lost(game)))
            seen[len(sets)] = seen.get(len(sets), 0) + 1
        self.assertLessEqual({0, 1, 2, 3, 4}, set(seen))

    def test_what_is_led_is_told_led(self):
        chance = seeded(242)
        for _ in range(40):
            game = some_game(chance)
            move = tuple((old, (3 * at + 1, 2)) for at, old in enumerate(game_points(game)))
            led = tuple(moved(many, move) for many in game)
            self.assertEqual([moved(many, move) for many in ranks(game)], ranks(led))
            self.assertEqual([moved(lost(game), move), moved(downs(game), move)], [lost(led), downs(led)])


class Downs(unittest.TestCase):
    def test_known_ones(self):
        self.assertEqual([downs(DUEL), downs(CLIMB), downs((EMPTY,) * 4)], [EMPTY, UP, EMPTY])
        moves = rows("ag", "ab", "bg", "ba", "ca", "cb", "cd", "dd", "gg", "ga")
        self.assertEqual(downs((words(*"abcdg"), words(*"acdg"), moves, words("g"))), rows("ag", "ca"))
        # From a goal of mine no move is told, nor one to a place of the same rank.
        self.assertEqual(downs((words(*"abcdg"), words(*"abcdg"), moves, words("g"))), rows("ag", "bg", "ca", "cb"))

    def test_by_chance(self):
        chance = seeded(243)
        for _ in range(150):
            game = some_game(chance)
            sets, _ = plain_ranks(game, game[2])
            told = EMPTY
            for at, many in enumerate(sets):
                for lower in sets[:at]:
                    try:
                        told = join(told, both(game[2], pairs(both(many, game[1]), lower)))
                    except TooMany:
                        break
            self.assertEqual(downs(game), told)


class JudgeLost(unittest.TestCase):
    def test_known_ones(self):
        game = (words(*"abcdeg"), words("a", "b"), rows("ag", "ab", "ba", "cg", "ca", "dg", "ec", "ed"), words("g"))
        self.assertEqual(judge_lost(game, words("a", "x")), ("place", "x"))
        self.assertEqual(judge_lost(game, words("a", "g")), ("goal", "g"))
        self.assertEqual(judge_lost(game, words("g", "x")), ("place", "x"))
        self.assertEqual(judge_lost(game, words("a", "b")), ("mine", "a", "g"))
        self.assertEqual(judge_lost(game, words("b")), ("mine", "b", "a"))
        self.assertEqual(judge_lost(game, words("c", "b")), ("mine", "b", "a"))
        self.assertEqual(judge_lost(game, words("c")), ("his", "c"))
        self.assertEqual(judge_lost(game, words("d")), ("his", "d"))
        self.assertEqual(judge_lost(game, words("e")), ("his", "e"))
        self.assertEqual([judge_lost(game, EMPTY), judge_lost(game, lost(game))], [None, None])
        # His place that has no move is a closed one.
        fewer = (words(*"abcdeg"), words("a", "b"), rows("ab", "ba", "cg", "ca", "dg", "ec", "ed"), words("g"))
        for many in (words("a", "b"), words("a", "b", "c"), words("a", "b", "c", "e")):
            self.assertIsNone(judge_lost(fewer, many))
        self.assertIsNone(judge_lost((words("a", "g"), EMPTY, EMPTY, words("g")), words("a")))
        self.assertEqual([judge_lost(DUEL, made((ZERO,), [ONE])), judge_lost(DUEL, LINE), judge_lost(DUEL, only(THREE))], [None, ("goal", ZERO), ("his", THREE)])
        self.assertIsNone(judge_lost(DUEL, made((TWO,), [THREE])))
        self.assertEqual(judge_lost(DUEL, made((TWO,), [TWO, (1, 2)]))[0], "goal")

    def test_bent_sets(self):
        chance, seen = seeded(244), {}
        for _ in range(300):
            game = some_game(chance)
            places, mine, moves, goal = game
            many = chance.choice([lost(game), lost(game), less(places, goal)])
            for _ in range(chance.choice([0, 1, 1, 2])):
                points = merged_points(game_points(game), some_points(chance, chance.choice([0, 1, 2])))
                tops = [*orbits(places, points), some_part(chance, 1)]
                many = chance.choice([join, less])(many, made(points, [chance.choice(tops)]))
            told = judge_lost(game, many)
            points = merged_points(game_points(game), many[1])
            mines = [row for row in orbits(moves, points) if is_in(row[1], both(many, mine)) and not is_in(row[2], many)]
            driven = less(both(less(many, mine), firsts(moves)), image(back(moves), many))
            if less(many, places) != EMPTY:
                self.assertEqual(told[0], "place")
                self.assertTrue(is_in(told[1], less(many, places)))
            elif both(many, goal) != EMPTY:
                self.assertEqual(told[0], "goal")
                self.assertTrue(is_in(told[1], both(many, goal)))
            elif mines:
                word, p, q = told
                self.assertEqual(word, "mine")
                self.assertTrue(is_in(p, both(many, mine)) and is_in(("row", p, q), moves) and not is_in(q, many))
            elif driven != EMPTY:
                self.assertEqual(told[0], "his")
                self.assertTrue(is_in(told[1], driven))
            else:
                self.assertIsNone(told)
                self.assertTrue(is_within(many, lost(game)))
            seen[told and told[0]] = seen.get(told and told[0], 0) + 1
        self.assertEqual(set(seen), {None, "place", "goal", "mine", "his"})
        self.assertGreater(min(seen.values()), 4)


class Generator(unittest.TestCase):
    def test_games_have_points(self):
        chance = seeded(245)
        games = [some_game(chance) for _ in range(60)]
        self.assertEqual({len(game_points(game)) for game in games}, {0, 1, 2})
        self.assertGreater(max(len(support(row[1])) for game in games for row in game[2][2]), 1)


if __name__ == "__main__":
    unittest.main()
