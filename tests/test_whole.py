"""What holds over the whole program: what several parts tell of one thing agrees, and what is led is told led."""

import unittest

from gapwise import errors
from gapwise.algebra import all_of, both, join, less, orbit_sets, outside
from gapwise.bars import bars, pickable
from gapwise.errors import LineError, NotThere, TooMany
from gapwise.facts import least_facts
from gapwise.games import downs, lost, ranks
from gapwise.greater import as_great, into, order
from gapwise.house import House
from gapwise.least import lead, least_machine
from gapwise.likeness import alike_moves
from gapwise.machines import moved_machine, other_machine
from gapwise.making import EMPTY, LINE, is_in, made, orbits
from gapwise.maps import back, identity, image, one_to_one, onto, then
from gapwise.picks import enough, plenty
from gapwise.placing import moved
from gapwise.plans import plan_with
from gapwise.points import make_point, merged_points
from gapwise.products import firsts, many_pairs, pairs, seconds
from gapwise.programtexts import moved_program
from gapwise.rings import heights, odd_ring, ring
from gapwise.rooms import both_ways, rooms
from gapwise.rounds import come_round, fixed, heart, levels, power
from gapwise.running import run, run_count
from gapwise.samples import count, members_on
from gapwise.sizes import size_of
from gapwise.trees import Program
from gapwise.values import support
from gapwise.webs import closure, farthest, path, places, reached
from gapwise.words import alike_machines, both_machines, first_word
from gapwise.words import reached as reached_places
from tests.helping import HALVES, ascending, seeded, some_points, some_set
from tests.plain_games import some_game
from tests.plain_machines import some_machines
from tests.plainly import Maker
from tests.relations import ONE, ZERO, only, some_map, some_pairs, some_part, some_set_of_parts, some_web

FAR = ((("far", ("x", "y")), (("next", ("x", "y")),), ()), (("far", ("x", "z")), (("far", ("x", "y")), ("next", ("y", "z"))), ()))
POINT = ("point",)
PAIRS = ("set", ("row", POINT, POINT))


def item(number, name):
    return ("item", number, ("name", name))


# All rows of two points such that a walk leads from the one to the other.
GROWS = Program((("web", PAIRS),), (), (
    ("let", "far", ("name", "web")),
    ("grow", "far", ("pairs", ("line",), ("line",)), (
        ("for", "x", ("name", "far"), (("for", "y", ("name", "web"), (
            ("if", ("same", item(1, "x"), item(0, "y")), (("add", ("row", (item(0, "x"), item(1, "y"))), "far"),), ()),)),)),)),))


def led_points(chance, points):
    """A move of these points, ascending, to others."""
    news = ascending([make_point(3 * p + chance.choice([1, 2]) * q, 2 * q) for p, q in points])
    return tuple(zip(points, news))


def points_web(chance):
    points = some_points(chance, chance.choice([0, 1, 2]))
    return made(points, [("row", chance.choice(HALVES), chance.choice(HALVES)) for _ in range(chance.choice([1, 2, 3]))])


class Agreement(unittest.TestCase):
    def test_walks_by_webs_rules_and_programs(self):
        chance, seen = seeded(291), []
        for _ in range(80):
            web = points_web(chance)
            whole = closure(web)
            self.assertEqual(least_facts(FAR, {"next": web})["far"], whole)
            self.assertEqual(run(GROWS, [web], runs=10 ** 6)["far"], whole)
            x = chance.choice(HALVES)
            self.assertEqual(image(whole, only(x)), less_start(web, whole, x))
            seen.append(whole != web)
        self.assertGreater(seen.count(True), 15)

    def test_machines_as_webs(self):
        chance = seeded(292)
        for _ in range(60):
            machine, = some_machines(chance, 1)
            moves = machine[3]
            web = made(moves[1], [("row", p, q) for _, p, _, q in moves[2]])
            self.assertEqual(reached_places(machine), reached(web, machine[2]))
            ends = [path(web, machine[2], p) for p in orbits(machine[4], merged_points(moves[1], support(machine[2])))]
            steps = [len(walk) - 1 for word, walk in ends if word == "path"]
            word = first_word(machine)
            self.assertEqual(None if word is None else len(word), min(steps, default=None))

    def test_games_of_one_as_webs(self):
        chance = seeded(293)
        for _ in range(60):
            places_, _, moves, goal = some_game(chance)
            told = ranks((places_, places_, moves, goal))
            steps, newest, known = [], goal, goal
            while newest != EMPTY:
                steps.append(newest)
                newest = less(image(back(moves), newest), known)
                known = join(known, newest)
            self.assertEqual(told, steps)
            # Who moves alone and who only answers lose just where no ring and no dead end keeps them.
            his = ranks((places_, EMPTY, moves, goal))
            self.assertEqual(less(join_all(his), known), EMPTY)

    def test_maps_as_webs(self):
        chance = seeded(294)
        for _ in range(60):
            points, parts = some_set_of_parts(chance, 1, 3)
            F = some_map(chance, points, parts)
            tail, period = come_round(F)
            self.assertEqual(power(F, tail), power(F, tail + period))
            on_rings = made(F[1], [x for x in orbits(firsts(F), F[1]) if is_in(("row", x, x), closure(F))])
            self.assertEqual(heart(F), on_rings)
            self.assertEqual(levels(F)[0], on_rings)
            self.assertEqual(ring(F)[0], "ring" if on_rings != EMPTY else "none")
            self.assertEqual(fixed(F), firsts(both(F, identity(firsts(F)))))
            self.assertEqual([one_to_one(F) is None, len(levels(F)) == 1], [onto(F, firsts(F)) is None] * 2)

    def test_rings_and_heights(self):
        chance = seeded(295)
        for _ in range(60):
            web = some_web(chance)
            if heights(web)[0] == "heights":
                self.assertEqual(ring(web), ("none", closure(web)))
                self.assertGreaterEqual(len(heights(web)[1]) - 1, farthest(web))
            if odd_ring(web)[0] == "sides":
                self.assertNotEqual(len(ring(both_ways(web))[1]) if web != EMPTY else 0, 1)
            self.assertEqual(all_of(rooms(web)) if len(places(web)[2]) else EMPTY, places(web))

    def test_sizes(self):
        chance = seeded(296)
        for _ in range(80):
            one, other = some_set(chance, 1), some_set(chance, 1)
            points = merged_points(one[1], other[1])
            try:
                whole, middle = join(one, other), both(one, other)
            except TooMany:
                continue
            self.assertEqual(size_of(whole, points) + size_of(middle, points), size_of(one, points) + size_of(other, points))
            self.assertEqual(size_of(less(one, other), points), size_of(one, points) - size_of(middle, points))
            sample = merged_points(points, some_points(chance, 4))
            self.assertEqual([count(whole, sample), len(members_on(whole, sample))], [count(one, sample) + count(other, sample) - count(middle, sample)] * 2)
            for member in members_on(whole, sample):
                self.assertTrue(is_in(member, whole) and (is_in(member, one) or is_in(member, other)))
            self.assertEqual(sum(number for _, number in size_of(one, points).terms), len(orbits(one, points)))
            if many_pairs(one, other) <= 600:
                rows = pairs(one, other)
                self.assertEqual(size_of(rows, points), size_of(one, points) * size_of(other, points))
                self.assertEqual(count(rows, sample), count(one, sample) * count(other, sample))
            self.assertEqual(join_all([EMPTY, *orbit_sets(one, points)]), one)

    def test_machines_and_sets_of_words(self):
        chance = seeded(297)
        for _ in range(30):
            one, other = some_machines(chance, 2, True)
            nothing = both_machines(one, other_machine(one))
            self.assertIsNone(first_word(nothing))
            try:
                self.assertEqual(alike_machines(least_machine(one), one)[0], "alike")
                self.assertEqual(image(lead(one), reached_places(one)), least_machine(one)[1])
            except TooMany:
                pass
            paper = alike_machines(one, other)
            self.assertEqual(paper[0] == "alike", first_word(both_machines(one, other_machine(other))) is None and first_word(both_machines(other_machine(one), other)) is None)

    def test_plans_and_downs(self):
        chance = seeded(298)
        for _ in range(40):
            game = some_game(chance)
            plan = plan_with(game, some_points(chance, 3))
            self.assertEqual(less(firsts(plan), join_all(ranks(game))), EMPTY)
            self.assertEqual(both(join_all(ranks(game)), lost(game)), EMPTY)
            self.assertEqual(join(join_all(ranks(game)), lost(game)), game[0])
            self.assertEqual(less(downs(game), game[2]), EMPTY)


def less_start(web, whole, x):
    """All values that a walk of one step or more from x reaches."""
    found = reached(web, x)
    return found if is_in(("row", x, x), whole) else less(found, only(x))


def join_all(sets):
    whole = EMPTY
    for many in sets:
        whole = join(whole, many)
    return whole


class Led(unittest.TestCase):
    def check(self, calls, parts, move):
        """That each call tells of the led parts what it tells of the parts, led."""
        for call in calls:
            self.assertEqual(self.led(self.told(call, parts), move), self.told(call, [moved(part, move) for part in parts]), call)

    def told(self, call, parts):
        try:
            return call(*parts)
        except TooMany:
            return "TooMany"

    def led(self, told, move):
        if isinstance(told, list):
            return [self.led(one, move) for one in told]
        return moved(told, move) if isinstance(told, tuple) and told and told[0] in ("set", "row") else told

    def test_sets(self):
        chance = seeded(301)
        for _ in range(60):
            one, other = some_set(chance, 1), some_set(chance, 1)
            move = led_points(chance, merged_points(one[1], other[1]))
            self.check([join, both, less, pairs, many_pairs, order_if_plain, lambda a, b: into(a, b)], [one, other], move)
            led = moved(one, move)
            self.assertEqual(as_great(one, other)[0], as_great(led, moved(other, move))[0])
            self.assertEqual(size_of(one, ()), size_of(led, ()))
            self.assertIsNotNone(alike_moves(one, led))
            x = outside(one, other)
            self.assertEqual(x is None, outside(led, moved(other, move)) is None)

    def test_programs(self):
        chance = seeded(302)
        for _ in range(60):
            program, values = Maker(chance).program()
            move = tuple((point, make_point(5 * point[0] + point[1], 3 * point[1])) for point in HALVES)
            try:
                told = run(program, values)
                led = run(moved_program(program, move), [moved(value, move) for value in values])
            except TooMany:
                continue
            self.assertEqual({name: moved(value, move) for name, value in told.items() if set(support(value)) <= set(HALVES)}, {name: led[name] for name, value in told.items() if set(support(value)) <= set(HALVES)})
            self.assertGreaterEqual(run_count(program, values), 0)

    def test_maps_and_picks(self):
        chance = seeded(303)
        for _ in range(60):
            points = some_points(chance, chance.choice([0, 1]))
            P, Q = some_pairs(chance, points, 3, 1), some_pairs(chance, points, 2, 1)
            X = made(points, [some_part(chance, 1)])
            move = led_points(chance, merged_points(P[1], merged_points(Q[1], X[1])))
            self.check([then], [P, Q], move)
            self.check([image], [P, X], move)
            self.check([back, firsts, seconds, pickable, plenty], [P], move)
            self.check([identity], [X], move)
            led = moved(P, move)
            self.assertEqual([bar[2] for bar in bars(P)] if len(bars(P)) == 1 else len(bars(P)), [bar[2] for bar in bars(led)] if len(bars(P)) == 1 else len(bars(led)))
            held = tuple(old for old, _ in move)
            self.assertEqual(enough(P, held) is None, enough(led, tuple(new for _, new in move)) is None)

    def test_webs_machines_and_games(self):
        chance = seeded(304)
        for _ in range(30):
            web = some_web(chance)
            move = led_points(chance, web[1])
            self.check([closure, places, rooms, farthest], [web], move)
            machine, = some_machines(chance, 1, True)
            move = led_points(chance, ascending([point for part in machine for point in support(part)]))
            self.assertEqual(moved(reached_places(machine), move), reached_places(moved_machine(machine, move)))
            self.assertEqual(moved_machine(both_machines(machine, machine), move), both_machines(moved_machine(machine, move), moved_machine(machine, move)))
            game = some_game(chance)
            move = led_points(chance, ascending([point for many in game for point in many[1]]))
            self.check([lambda *parts: ranks(parts), lambda *parts: lost(parts), lambda *parts: downs(parts)], list(game), move)

    def test_houses(self):
        chance = seeded(305)
        for _ in range(30):
            one, other = House(), House()
            move = tuple((point, make_point(7 * point[0] + point[1], 2 * point[1])) for point in HALVES)
            for _ in range(6):
                name, value = chance.choice("ab"), some_set(chance, 1)
                one.do(("name", name, value))
                other.do(("name", name, moved(value, move)))
            one.do(("move", move))
            self.assertEqual(one.state(), other.state())


def order_if_plain(one, other):
    return order(one, other) if not one[1] and not other[1] else None


class Errors(unittest.TestCase):
    def test_all_stand_beneath_a_base(self):
        found = [thing for thing in vars(errors).values() if isinstance(thing, type) and issubclass(thing, Exception)]
        self.assertEqual(len(found), 29)
        for thing in found:
            self.assertTrue(thing in (LineError, NotThere) or thing.__bases__ in ((LineError,), (NotThere,)))

    def test_deep_things_are_copied(self):
        deep = inner = []
        for _ in range(3000):
            inner.append([])
            inner = inner[0]
        error = errors.NoMember(((deep,), {"a": deep}))
        kept, steps = error.value[0][0], 0
        self.assertIsNot(kept, deep)
        while kept:
            kept = kept[0]
            steps += 1
        self.assertEqual(steps, 3000)
        self.assertEqual([LINE == ("set", (), (ZERO,)), ONE == (1, 1)], [True, True])


if __name__ == "__main__":
    unittest.main()
