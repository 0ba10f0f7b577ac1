import unittest

from gapwise.algebra import both, is_within, join, less
from gapwise.errors import NoMember, NotThere
from gapwise.making import EMPTY, LINE, is_in, made, orbits
from gapwise.maps import back, identity, image, then
from gapwise.placing import moved
from gapwise.points import merged_points
from gapwise.products import firsts, pairs, seconds
from gapwise.reading import check_value
from gapwise.rooms import both_ways, linked, room_of, rooms
from gapwise.values import support
from gapwise.webs import at_steps, closure, farthest, fewest_steps, judge_path, path, places, reached
from tests.helping import ascending, seeded, some_points
from tests.relations import HALF, ONE, THREE, TWO, ZERO, only, some_values, some_web

LESS = made((), [("row", ZERO, ONE)])
DOWN = made((), [("row", ZERO, "a"), ("row", "a", "b")])
NEAR = made((ZERO,), [("row", ONE, TWO), ("row", (-2, 1), (-1, 1))])
LETTERS = "abcdefghijklmnopqrstuvwxyz"


def reached_by_images(web, x):
    """The list of the sets of all values that walks of 0, 1, .. steps come to first."""
    levels, known = [], only(x)
    newest = known
    while newest != EMPTY:
        levels.append(newest)
        newest = less(image(web, newest), known)
        known = join(known, newest)
    return levels, known


class Places(unittest.TestCase):
    def test_places(self):
        self.assertEqual([places(LESS), places(EMPTY), places(DOWN)], [LINE, EMPTY, made((), [ZERO, "a", "b"])])
        self.assertEqual(places(NEAR), made((ZERO,), [ONE, (-1, 1)]))
        self.assertEqual(places(made((), [("row", "a", "a")])), made((), ["a"]))
        chance = seeded(161)
        for _ in range(60):
            web = some_web(chance)
            self.assertEqual(places(web), join(firsts(web), seconds(web)))


class Walks(unittest.TestCase):
    def check_walk(self, web, x, y, walk):
        self.assertEqual([walk[0], walk[-1]], [x, y])
        for one, other in zip(walk, walk[1:]):
            self.assertTrue(is_in(("row", one, other), web))

    def test_known_ones(self):
        self.assertEqual([fewest_steps(LESS, ZERO, (5, 1)), fewest_steps(LESS, (5, 1), ZERO), fewest_steps(LESS, ONE, ONE), fewest_steps(EMPTY, "a", "a"), fewest_steps(EMPTY, "a", "b")], [1, None, 0, 0, None])
        self.assertEqual([reached(LESS, ZERO), reached(EMPTY, ONE), reached(DOWN, HALF)], [made((ZERO,), [ZERO, ONE]), only(ONE), join(only(HALF), made((), ["a", "b"]))])
        self.assertEqual([path(LESS, (2, 1), ONE), path(DOWN, (7, 1), "b"), path(DOWN, "q", "q"), path(EMPTY, ONE, TWO)],
                         [("closed", made((TWO,), [TWO, THREE])), ("path", ((7, 1), "a", "b")), ("path", ("q",)), ("closed", only(ONE))])
        apart = made((), [("row", ("row", ZERO, ONE), ("row", TWO, THREE))])
        self.assertEqual(fewest_steps(apart, ("row", ZERO, ONE), ("row", (9, 1), (10, 1))), 1)
        self.assertEqual(fewest_steps(apart, ("row", ZERO, ONE), ("row", ZERO, (10, 1))), None)
        over = made((), [("row", ("row", ZERO, TWO), ("row", ONE, THREE))])
        self.assertEqual(fewest_steps(over, ("row", ZERO, ONE), ("row", TWO, THREE)), 2)
        self.check_walk(over, ("row", ZERO, ONE), ("row", TWO, THREE), path(over, ("row", ZERO, ONE), ("row", TWO, THREE))[1])
        self.assertEqual(fewest_steps(over, ("row", ZERO, ONE), ("row", HALF, TWO)), 1)
        self.assertEqual(fewest_steps(over, ("row", ZERO, ONE), ("row", HALF, (3, 4))), None)

    def test_by_chance(self):
        chance, far, none = seeded(162), set(), 0
        for _ in range(120):
            web = some_web(chance)
            x, *ys = some_values(chance, web, 6)
            levels, known = reached_by_images(web, x)
            told = reached(web, x)
            check_value(told)
            self.assertEqual(told, known)
            ys.append(x)
            for level in levels:
                ys.extend([value for value in level[2] if len([point for point in support(value) if point not in web[1]]) <= 2][:2])
            for y in ys:
                steps = [n for n, level in enumerate(levels) if is_in(y, level)]
                fewest = fewest_steps(web, x, y)
                self.assertEqual(fewest, steps[0] if steps else None)
                far.add(fewest)
                paper = path(web, x, y)
                self.assertIsNone(judge_path(web, x, y, paper))
                if fewest is None:
                    none += 1
                    self.assertEqual(paper, ("closed", told))
                else:
                    self.assertEqual(paper[0], "path")
                    self.assertEqual(len(paper[1]), fewest + 1)
                    self.check_walk(web, x, y, paper[1])
        self.assertGreater(none, 50)
        self.assertLessEqual({0, 1, 2, 3}, far)

    def test_closure_and_steps(self):
        chance = seeded(163)
        for _ in range(60):
            web = some_web(chance)
            whole, newest = web, web
            while newest != EMPTY:
                newest = less(then(newest, web), whole)
                whole = join(whole, newest)
            told = closure(web)
            check_value(told)
            self.assertEqual(told, whole)
            known, newest = identity(places(web)), identity(places(web))
            for n in range(12):
                self.assertEqual(at_steps(web, n), newest)
                if newest != EMPTY:
                    last = n
                newest = less(then(newest, web), known)
                known = join(known, newest)
                if newest == EMPTY:
                    break
            self.assertEqual(farthest(web), last if web != EMPTY else 0)
            self.assertEqual([at_steps(web, farthest(web) + 1), at_steps(web, 10 ** 30)], [EMPTY, EMPTY])

    def test_known_closures(self):
        self.assertEqual([closure(LESS), closure(EMPTY), farthest(LESS), farthest(EMPTY), farthest(DOWN)], [LESS, EMPTY, 1, 0, 2])
        self.assertEqual(closure(DOWN), join(DOWN, made((), [("row", ZERO, "b")])))
        self.assertEqual([at_steps(DOWN, 2), at_steps(DOWN, 0)], [made((), [("row", ZERO, "b")]), made((), [("row", ZERO, ZERO), ("row", "a", "a"), ("row", "b", "b")])])
        ring = made((), [("row", a, b) for a, b in zip("abcde", "bcdea")])
        self.assertEqual([farthest(ring), closure(ring), len(at_steps(ring, 3)[2])], [4, pairs(places(ring), places(ring)), 5])
        self.assertEqual(farthest(made((), [("row", "a", "a")])), 0)

    def test_words_in_a_long_line(self):
        line = made((), [("row", LETTERS[k], LETTERS[k + 1]) for k in range(23)])
        self.assertEqual([farthest(line), len(closure(line)[2]), fewest_steps(line, "a", "x")], [23, 276, 23])
        self.assertEqual(path(line, "a", "x")[1], tuple(LETTERS[:24]))

    def test_long_walks(self):
        # Points beside two of x's: each step goes on to the next gap, and words count the gaps that are passed.
        steps = [("row", ("row", word, ZERO), ("row", other, ONE)) for word, other in zip("abcdefghijklm", "bcdefghijklma")]
        web = made((), steps)
        x = ("row", "a", ZERO)
        found = path(web, x, ("row", "a", (1, 3)))
        self.assertEqual([found[0], len(found[1])], ["path", 14])
        self.assertIsNone(judge_path(web, x, ("row", "a", (1, 3)), found))

    def test_nothing_alike_is_met_twice(self):
        over = made((ZERO,), [("row", (1, 1), (2, 1)), ("row", ZERO, (1, 1)), ("row", (2, 1), ZERO)])
        self.assertEqual(len(path(over, (-3, 1), (5, 1))), 2)
        self.assertEqual(path(over, ZERO, (5, 1)), ("path", (ZERO, (5, 1))))
        self.assertEqual(fewest_steps(over, (3, 1), (2, 1)), 2)


class JudgePath(unittest.TestCase):
    def test_forms(self):
        for value in (None, 7, True, "path", (), ("path",), ("path", ()), ("path", [ZERO]), ("path", "a"), ("path", (ZERO,), ()), ["path", (ZERO,)], ("walk", (ZERO,)), ("closed", ()), ("closed", ZERO),
                      ("closed", "a"), ("closed", ("row", "a")), ("closed", ["set", (), ()]), ("closed", ("set", (ZERO,), ())), ("closed", ("set", (), (ONE,))), ("closed", ("set", (), [])),
                      ("path", ((2, 2),)), ("path", (ZERO, [ONE, 1])), ("path", (ZERO, (1, True))), ("path", ("A",)), ("path", (ZERO, ("row",))), ("path", (("set", (ZERO,), ()),)), {"path": (ZERO,)},
                      (["path"], (ZERO,)), (None, LINE), (True, LINE), ("closed", None)):
            self.assertEqual(judge_path(LESS, ZERO, ONE, value), ("form",), value)

    def test_tuples_that_begin_like_rows_and_sets(self):
        # Gone through part by part, "row" and "set" are words like others.
        web = made((), [("row", "row", "set"), ("row", "set", ZERO)])
        self.assertIsNone(judge_path(web, "row", ONE, ("path", ("row", "set", ONE))))
        self.assertEqual(judge_path(web, "row", ONE, ("path", ("row", ONE))), ("tie", 0))
        self.assertIsNone(judge_path(web, "set", ONE, ("path", ("set", ONE))))
        self.assertIsNone(judge_path(EMPTY, "row", "row", ("path", ("row",))))
        self.assertEqual(judge_path(EMPTY, ONE, ONE, ("path", ONE)), ("form",))
        self.assertEqual(judge_path(EMPTY, LINE, LINE, ("path", LINE)), ("form",))

    def test_walks(self):
        self.assertIsNone(judge_path(LESS, ZERO, ONE, ("path", (ZERO, HALF, (2, 3), ONE))))
        self.assertIsNone(judge_path(LESS, ZERO, ZERO, ("path", (ZERO,))))
        self.assertEqual(judge_path(LESS, ZERO, ONE, ("path", (ZERO,))), ("ends",))
        self.assertEqual(judge_path(LESS, ZERO, ONE, ("path", (ONE,))), ("ends",))
        self.assertEqual(judge_path(LESS, ZERO, ONE, ("path", (HALF, ZERO, ONE))), ("ends",))
        self.assertEqual(judge_path(LESS, ZERO, ONE, ("path", (ZERO, THREE, TWO, HALF, ONE))), ("tie", 1))
        self.assertEqual(judge_path(LESS, ZERO, ONE, ("path", (ZERO, "a", ONE))), ("tie", 0))
        deep = ("row", ("row", ("row", ("row", "a"))))
        self.assertEqual(judge_path(LESS, ZERO, ONE, ("path", (ZERO, deep, ONE))), ("tie", 0))
        self.assertEqual(judge_path(LESS, ZERO, ONE, ("path", (ZERO, ("row", deep), ONE))), ("form",))
        self.assertIsNone(judge_path(LESS, deep, deep, ("path", (deep,))))

    def test_sets(self):
        up = made((TWO,), [TWO, THREE])
        self.assertIsNone(judge_path(LESS, TWO, ONE, ("closed", up)))
        self.assertIsNone(judge_path(LESS, TWO, ONE, ("closed", join(up, made((), ["q"])))))
        self.assertEqual(judge_path(LESS, ONE, ZERO, ("closed", up)), ("lacks",))
        self.assertEqual(judge_path(LESS, TWO, THREE, ("closed", up)), ("holds",))
        self.assertEqual(judge_path(LESS, TWO, TWO, ("closed", up)), ("holds",))
        self.assertEqual(judge_path(LESS, "a", "b", ("closed", EMPTY)), ("lacks",))
        for many in (only(TWO), made((TWO, THREE), [TWO, (5, 2)]), made((ONE, TWO), [(3, 2), TWO])):
            word, v, w = judge_path(LESS, TWO, ONE, ("closed", many))
            self.assertEqual(word, "leads")
            self.assertTrue(is_in(("row", v, w), LESS) and is_in(v, many) and not is_in(w, many))

    def test_bent_papers(self):
        chance, seen = seeded(164), set()
        for _ in range(250):
            web = some_web(chance)
            x, y, z = some_values(chance, web, 3)
            paper = path(web, x, y)
            if paper[0] == "path":
                walk = list(paper[1])
                at = chance.randrange(len(walk))
                draw = chance.random()
                if draw < 0.3:
                    walk[at] = z
                elif draw < 0.5:
                    del walk[at]
                elif draw < 0.7:
                    walk.insert(at, walk[at])
                bent = tuple(walk)
                told = judge_path(web, x, y, ("path", bent))
                untied = [k for k in range(len(bent) - 1) if not is_in(("row", bent[k], bent[k + 1]), web)]
                if not bent:
                    expected = ("form",)
                elif bent[0] != x or bent[-1] != y:
                    expected = ("ends",)
                else:
                    expected = ("tie", untied[0]) if untied else None
                self.assertEqual(told, expected)
            else:
                other = made(merged_points(paper[1][1], support(z)), [chance.choice([z, x, y])])
                many = chance.choice([join, less, both])(paper[1], other)
                told = judge_path(web, x, y, ("closed", many))
                if not is_in(x, many):
                    self.assertEqual(told, ("lacks",))
                elif is_in(y, many):
                    self.assertEqual(told, ("holds",))
                elif is_within(image(web, many), many):
                    self.assertIsNone(told)
                else:
                    word, v, w = told
                    self.assertEqual(word, "leads")
                    self.assertTrue(is_in(("row", v, w), web) and is_in(v, many) and not is_in(w, many))
            seen.add(told and told[0])
        self.assertEqual(seen, {None, "ends", "tie", "lacks", "holds", "leads"} | ({"form"} & seen))


class Rooms(unittest.TestCase):
    def test_known_ones(self):
        self.assertEqual(rooms(NEAR), made((ZERO,), [made((ZERO,), [(-1, 1)]), made((ZERO,), [ONE])]))
        self.assertEqual([rooms(EMPTY), rooms(LESS), both_ways(LESS)], [EMPTY, made((), [LINE]), made((), [("row", ZERO, ONE), ("row", ONE, ZERO)])])
        self.assertEqual([room_of(NEAR, THREE), room_of(LESS, ONE)], [made((ZERO,), [ONE]), LINE])
        self.assertEqual([linked(NEAR, THREE, ONE), linked(NEAR, THREE, (-1, 1))], [("path", (THREE, ONE)), ("closed", made((ZERO,), [ONE]))])
        self.assertEqual([linked(NEAR, ZERO, ZERO), linked(NEAR, ZERO, ONE), linked(NEAR, "a", ONE)], [("path", (ZERO,)), ("closed", only(ZERO)), ("closed", made((), ["a"]))])
        own = made((), [("row", ZERO, ("row", ZERO, "a"))])
        self.assertEqual(room_of(own, ONE), join(only(ONE), only(("row", ONE, "a"))))
        self.assertEqual(rooms(own), made((), [room_of(own, ONE)]))

    def test_no_member(self):
        for value in (ZERO, "a", None, True, 3, [ONE], [[1, 1]], {"a": [1]}, (), (2, 2), ("row",), ("row", ("row", ("row", ("row", ("row", "a"))))), LINE, "", "A"):
            with self.assertRaises(NoMember) as caught:
                room_of(NEAR, value)
            self.assertEqual(caught.exception.value, value)
            self.assertIs(type(caught.exception.value), type(value))
            self.assertIsInstance(caught.exception, NotThere)
        value = [[1, 1]]
        with self.assertRaises(NoMember) as caught:
            room_of(NEAR, value)
        self.assertIsNot(caught.exception.value, value)
        self.assertIsNot(caught.exception.value[0], value[0])

    def test_by_chance(self):
        chance = seeded(165)
        for _ in range(100):
            web = some_web(chance)
            ways = both_ways(web)
            self.assertEqual(ways, join(web, back(web)))
            whole = rooms(web)
            check_value(whole)
            for x in some_values(chance, web, 4):
                if not is_in(x, places(web)):
                    self.assertRaises(NoMember, room_of, web, x)
                    continue
                room = room_of(web, x)
                self.assertEqual(room, reached_by_images(ways, x)[1])
                self.assertTrue(is_in(room, whole))
                for y in some_values(chance, web, 3):
                    paper = linked(web, x, y)
                    self.assertEqual(paper[0] == "path", is_in(y, room))
                    self.assertIsNone(judge_path(ways, x, y, paper))
                    if paper[0] == "path":
                        self.assertEqual(len(paper[1]), fewest_steps(ways, x, y) + 1)
                    else:
                        self.assertEqual(paper[1], room)
                    if is_in(y, places(web)):
                        self.assertEqual(room_of(web, y) == room, paper[0] == "path")
            from_rooms = EMPTY
            for room in whole[2]:
                from_rooms = join(from_rooms, made(web[1], room[2]) if set(room[1]) <= set(web[1]) else made(web[1], orbits(room, ())))
            self.assertEqual(from_rooms, places(web))


class Moves(unittest.TestCase):
    def test_what_is_told_moves_with_the_points(self):
        chance = seeded(166)
        for _ in range(40):
            web = some_web(chance)
            x, y = some_values(chance, web, 2)
            olds = ascending([*web[1], *support(x), *support(y)])
            move = tuple((old, (2 * at + 5, 3)) for at, old in enumerate(olds))
            led = moved(web, move)
            self.assertEqual(fewest_steps(web, x, y), fewest_steps(led, moved(x, move), moved(y, move)))
            self.assertEqual(moved(reached(web, x), move), reached(led, moved(x, move)))
            for call in (closure, places, rooms, both_ways):
                self.assertEqual(moved(call(web), move), call(led))


if __name__ == "__main__":
    unittest.main()
