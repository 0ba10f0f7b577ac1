"""What holds for every function: arguments stay as they are, and what is told is new and the caller's."""

import unittest

from gapwise import (
    algebra, bars, console, deeds, facts, games, greater, house, least, likeness, machines, making, maps, picks, placing, plainrun, plans, points, products,
    programtexts, reading, rings, rooms, rounds, rules, running, samples, sizes, trees, values, webs, words)
from gapwise.errors import LineError, NotThere
from gapwise.making import LINE, made
from tests.helping import copy_of, is_same_thing

ZERO, ONE, TWO, THREE = (0, 1), (1, 1), (2, 1), (3, 1)
ABOVE = ("set", (ZERO,), (ONE,))
RISING = ("set", (), (("row", ZERO, ONE),))
SETS = made((ZERO,), [ABOVE, LINE])
MOVE = ((ZERO, ONE), (ONE, THREE))
BLOCK = (("let", "r", ("set", ("point",), ())), ("for", "x", ("name", "s"), (("add", ("name", "x"), "r"),)))
PROGRAM = trees.Program((("s", ("set", ("point",))),), (), BLOCK)
ROWS = (("let", "r", ("set", ("row", ("point",)), ())), ("for", "x", ("name", "s"), (("add", ("row", (("name", "x"),)), "r"),)))
PLAIN = trees.Program((("s", ("set", ("point",))),), (), (*ROWS, ("let", "p", ("point", TWO))))
ABOVE_SIZE = sizes.Size(2, [((0, 1), 1)])
SWAP = made((), [("row", "a", "b"), ("row", "b", "a"), ("row", ZERO, ZERO), ("row", ("row", ZERO), "a")])
UNLIKE = made((), [("row", ZERO, ONE), ("row", ONE, ZERO)])
BAR = ("bar", ONE, (0,))
DOWN = made((), [("row", ZERO, "a"), ("row", "a", "b")])
EVEN = (made((), ["a"]), made((), ["e", "o"]), "e", made((), [("row", "e", "a", "o"), ("row", "o", "a", "e")]), made((), ["e"]))
ODD = machines.other_machine(EVEN)
NAMES = made((), [("row", "a", "z")])
FAR = ((("far", ("x", "y")), (("next", ("x", "y")),), ()),)
TREE = ("far", ("row", ZERO, ONE), 0, (("next", ("row", ZERO, ONE), None, ()),))
GAME = (made((), ["p", ("row", "q", ZERO), ("row", "w", ZERO)]), made((), ["p", ("row", "q", ZERO)]), made((), [("row", "p", ("row", "q", ZERO)), ("row", ("row", "q", ZERO), ("row", "w", ONE))]), made((), [("row", "w", ZERO)]))
HIS = (GAME[0], making.EMPTY, *GAME[2:])
RUN = ("run", (("far", ("set", ("point",))),), (), (("let", "low", ("less", ("line",), ("name", "far"))),))


def in_house(word, *parts):
    """What a call of a house with some deeds tells."""
    place = house.House()
    place.tried([("name", "far", ABOVE), ("name", "w", "a"), RUN])
    place.branch("side")
    place.do(("drop", "w"))
    return getattr(place, word)(*parts)


def in_console(line):
    return console.Console().say(line)



CALLS = [
    (points.make_point, [4, -6]), (points.make_point, [4, 0]), (points.is_before, [ZERO, ONE]), (points.gap_of, [(ZERO, TWO), ONE]),
    (points.spread, [(ZERO, TWO), 1, 3]), (points.spread, [(), 0, 2]),
    (values.support, [("row", ONE, ZERO)]), (values.depth, [SETS]), (values.value_text, [SETS]),
    (placing.moved, [SETS, MOVE]), (placing.moved, [("row", TWO), MOVE]), (placing.placed, [("row", THREE, TWO), (ZERO,)]),
    (placing.are_alike, [(ZERO,), ONE, TWO]), (placing.shape, [("row", THREE, TWO), (ZERO,)]),
    (making.made, [(ZERO, ONE), [TWO, ONE, ("row", ZERO, "a")]]), (making.made, [(), []]), (making.orbits, [SETS, (ONE,)]), (making.orbits, [LINE, ()]),
    (making.is_in, [ABOVE, SETS]), (making.needed, [ABOVE, ZERO]), (making.needed, [ABOVE, [0, 1]]), (making.needed, [ABOVE, {"a": [1]}]),
    (reading.check_value, [["row", "a"]]), (reading.check_value, [("row", [0, 1])]), (reading.check_value, [{"a": []}]), (reading.check_value, [SETS]),
    (reading.read_value, ["<a {0|1}>"]), (reading.read_value, [["a"]]), (reading.read_value, ["<a"]),
    (algebra.joined_points, [ABOVE, SETS]), (algebra.join, [ABOVE, RISING]), (algebra.both, [ABOVE, LINE]), (algebra.less, [LINE, ABOVE]),
    (algebra.is_within, [ABOVE, LINE]), (algebra.outside, [LINE, ABOVE]), (algebra.orbit_sets, [LINE, (ZERO,)]), (algebra.all_of, [SETS]),
    (products.merges, [3, 4]), (products.many_pairs, [ABOVE, LINE]), (products.pairs, [ABOVE, LINE]), (products.firsts, [RISING]), (products.seconds, [RISING]),
    (likeness.alike_moves, [("row", ONE, ZERO), ("row", THREE, TWO)]),
    (trees.is_kind, [["row", ("point",)]]), (trees.is_kind, [("row", ["point"])]), (trees.is_of, [ABOVE, ("set", ("point",))]),
    (trees.Program, [[], (), ()]), (trees.Program, [(), (), (["let", "a", ("line",)],)]), (trees.Program, [(("p", ["point"]),), (), ()]), (trees.Program, [(), (), BLOCK[:1]]),
    (trees.Program, [(("s", ("set", ("point",))),), (), BLOCK]),
    (running.run, [PROGRAM, [ABOVE]]), (running.run, [PROGRAM, (ABOVE,)]), (running.run_count, [PROGRAM, [ABOVE]]), (running.is_told, [PROGRAM, [ABOVE], "r", ONE]),
    (running.is_told, [PROGRAM, [ABOVE], ["r"], ONE]), (running.is_told, [PROGRAM, [ABOVE], "r", [1, 1]]),
    (plainrun.is_plain, [PLAIN]), (plainrun.plain_run, [PLAIN, [ABOVE], (ZERO, ONE, TWO)]), (plainrun.plain_run, [PLAIN, (ABOVE,), (ZERO, TWO)]),
    (plainrun.plain_run, [PLAIN, [ABOVE], (ONE,)]),
    (programtexts.moved_program, [PLAIN, ((TWO, THREE),)]), (programtexts.moved_program, [PLAIN, ()]), (programtexts.renamed_program, [PLAIN, {"x": "s"}]),
    (programtexts.renamed_program, [PLAIN, {"x": "y", "s": "x"}]), (programtexts.program_text, [PLAIN]), (programtexts.read_program, ["[] [] []"]),
    (programtexts.read_program, ["[] [] [(let a (point 2/4))]"]), (programtexts.read_program, [["[]"]]),
    (samples.members_on, [LINE, (ZERO, ONE)]), (samples.members_on, [ABOVE, [ZERO]]), (samples.count, [LINE, (ZERO, ONE)]), (samples.count, [ABOVE, {"a": [1]}]),
    (sizes.Size, [2, [((0, 1), 1), ((0, 1), 2)]]), (sizes.Size, [1, (((0,), 0),)]), (ABOVE_SIZE.__call__, [[3, 4]]), (ABOVE_SIZE.__call__, [(3, 4)]), (ABOVE_SIZE.finer, [1]),
    (ABOVE_SIZE.greatest, []), (ABOVE_SIZE.at_most, [ABOVE_SIZE]), (ABOVE_SIZE.at_most, [sizes.Size(1, [])]), (sizes.size_of, [ABOVE, (ONE,)]),
    (greater.as_great, [LINE, LINE]), (greater.as_great, [LINE, ABOVE]), (greater.into_map, [LINE, RISING, (ZERO,)]), (greater.into_map, [ABOVE, LINE, (ONE,)]),
    (greater.into, [LINE, RISING]), (greater.into, [RISING, LINE]), (greater.order, [LINE, RISING]), (greater.standard, [(ZERO,), ABOVE_SIZE]),
    (greater.standard, [(), sizes.Size(1, [((4,), 1)])]),
    (maps.judge_map, [SWAP, LINE, LINE]), (maps.judge_map, [RISING, LINE, LINE]), (maps.value_at, [SWAP, ONE]), (maps.value_at, [SWAP, ABOVE]),
    (maps.image, [RISING, ABOVE]), (maps.identity, [ABOVE]), (maps.then, [RISING, SWAP]), (maps.back, [RISING]), (maps.one_to_one, [SWAP]), (maps.onto, [SWAP, LINE]),
    (rounds.power, [SWAP, 3]), (rounds.come_round, [SWAP]), (rounds.track, [SWAP, ("row", ONE)]), (rounds.track, [SWAP, ABOVE]), (rounds.heart, [SWAP]),
    (rounds.lengths, [SWAP]), (rounds.levels, [SWAP]), (rounds.fixed, [SWAP]),
    (bars.intervals, [(ZERO,), ("row", ONE, TWO)]), (bars.fitting, [UNLIKE, ONE, (0,)]), (bars.bars, [RISING]), (bars.pickable, [UNLIKE]), (bars.barred_at, [RISING, BAR, (THREE,)]),
    (picks.enough, [UNLIKE, (ZERO,)]), (picks.plenty, [UNLIKE]), (picks.pick, [UNLIKE]), (picks.pick, [RISING]), (picks.judge_pick, [RISING, BAR]),
    (picks.judge_pick, [RISING, ["bar", ONE, [0]]]), (picks.judge_pick, [RISING, ("points", [ZERO])]), (picks.picked, [UNLIKE, (ZERO, ONE)]), (picks.picked, [UNLIKE, (ZERO,)]),
    (webs.places, [RISING]), (webs.reached, [RISING, ONE]), (webs.fewest_steps, [RISING, ZERO, ONE]), (webs.path, [RISING, ZERO, ONE]), (webs.path, [RISING, ONE, ZERO]),
    (webs.closure, [RISING]), (webs.at_steps, [RISING, 1]), (webs.farthest, [RISING]), (webs.judge_path, [RISING, ZERO, ONE, ("path", (ZERO, ONE))]),
    (webs.judge_path, [RISING, ZERO, ONE, ["path", [ZERO, {"a": [1]}]]]), (webs.judge_path, [RISING, ZERO, ONE, ("closed", ABOVE)]),
    (rooms.both_ways, [RISING]), (rooms.room_of, [RISING, ONE]), (rooms.room_of, [RISING, [1, [1]]]), (rooms.room_of, [RISING, {"a": [1]}]), (rooms.rooms, [RISING]),
    (rooms.linked, [RISING, ONE, ZERO]),
    (rings.ring, [RISING]), (rings.ring, [SWAP]), (rings.judge_ring, [RISING, ("ring", (ZERO, ONE))]), (rings.judge_ring, [RISING, ["ring", [ZERO, {"a": [1]}]]]), (rings.judge_ring, [RISING, ("none", RISING)]),
    (rings.heights, [DOWN]), (rings.heights, [RISING]), (rings.heights, [making.EMPTY]), (rings.judge_heights, [DOWN, ("heights", [made((), ["b"]), made((), ["a"]), LINE])]),
    (rings.judge_heights, [DOWN, ("heights", [made((), ["b"])])]), (rings.judge_heights, [DOWN, ("endless", [ZERO, [1, 1]])]), (rings.odd_ring, [DOWN]), (rings.odd_ring, [RISING]),
    (rings.judge_odd, [DOWN, ("sides", LINE)]), (rings.judge_odd, [DOWN, ["sides", [LINE]]]),
    (machines.judge_machine, [EVEN]), (machines.run_word, [EVEN, ["a", "a"]]), (machines.run_word, [EVEN, ("a",)]), (machines.run_word, [EVEN, ["a", "b"]]), (machines.takes, [EVEN, ["a"]]),
    (machines.other_machine, [EVEN]), (machines.turned_machine, [EVEN, NAMES]), (machines.moved_machine, [EVEN, MOVE]), (machines.moved_machine, [(*EVEN[:2], ("row", TWO), *EVEN[3:]), MOVE]),
    (words.reached, [EVEN]), (words.word_to, [EVEN, "o"]), (words.word_to, [EVEN, "z"]), (words.first_word, [ODD]), (words.alike_machines, [EVEN, EVEN]), (words.alike_machines, [EVEN, ODD]),
    (words.judge_alike, [EVEN, ODD, ("word", ())]), (words.judge_alike, [EVEN, EVEN, words.alike_machines(EVEN, EVEN)]), (words.both_machines, [EVEN, ODD]), (words.either_machine, [EVEN, ODD]),
    (least.least_machine, [EVEN]), (least.lead, [EVEN]), (least.matched, [EVEN, EVEN]), (least.matched, [EVEN, ODD]),
    (rules.check_rules, [FAR]), (rules.check_rules, [[FAR[0]]]), (rules.check_rules, [(FAR[0], ["far", [{"a": [1]}]])]),
    (facts.least_facts, [FAR, {"next": RISING, "q": making.EMPTY}]), (facts.rank_of, [FAR, {"next": RISING}, "far", ("row", ZERO, ONE)]), (facts.tree_of, [FAR, {"next": RISING}, "far", ("row", ZERO, ONE)]),
    (facts.judge_tree, [FAR, {"next": RISING}, TREE]), (facts.judge_tree, [FAR, {"next": RISING}, ["far", [{"a": 1}]]]), (facts.judge_closed, [FAR, {"next": RISING}, {"next": RISING}]),
    (facts.judge_closed, [FAR, {"next": RISING}, {}]),
    (games.ranks, [GAME]), (games.lost, [HIS]), (games.judge_lost, [GAME, LINE]), (games.judge_lost, [HIS, games.lost(HIS)]), (games.downs, [GAME]),
    (plans.book, [GAME]), (plans.book, [HIS]), (plans.judge_book, [GAME, ("book", GAME[2])]), (plans.judge_book, [GAME, ["book", [GAME[2]]]]), (plans.judge_book, [GAME, ("bar", "p", [0])]),
    (plans.ranks_with, [GAME, (ZERO, ONE)]), (plans.plan_with, [GAME, (ZERO, ONE)]), (plans.play, [GAME, GAME[2], "p", []]), (plans.play, [HIS, making.EMPTY, "p", [("row", "q", ZERO), ["w", [1]]]]),
    (plans.play, [HIS, making.EMPTY, "p", [("row", "q", ZERO), ("row", "w", ONE)]]), (plans.play, [GAME, GAME[2], [[{"a": [1]}]], []]),
    (deeds.behind, [{"far": ABOVE, "w": "a"}, RUN]), (deeds.behind, [{"far": ABOVE}, ("drop", ["far", ["w"]])]), (deeds.behind, [{"far": ABOVE}, ["drop", "far"]]), (deeds.behind, [{}, ("name", [["a"]], [])]),
    (deeds.behind, [{"far": ABOVE}, ("run", (), [], ())]), (deeds.behind, [{"far": ABOVE}, ("add", "far", {"a": [1]})]), (deeds.behind, [{"far": ABOVE}, ("move", MOVE)]), (deeds.behind, [{}, ("move", [[1]])]),
    (deeds.reads, [RUN]), (deeds.writes, [RUN]), (deeds.differences, [{"a": LINE, "b": "x"}, {"a": ABOVE}]), (deeds.deed_text, [RUN]), (deeds.read_deed, ["move 0 1"]), (deeds.read_deed, [["drop", {"a": [1]}]]),
    (in_house, ["do", ("drop", "far")]), (in_house, ["do", [RUN]]), (in_house, ["undo"]), (in_house, ["redo"]), (in_house, ["branch", ["a", ["b"]]]), (in_house, ["go", "side"]), (in_house, ["go", ["a", {"b": []}]]),
    (in_house, ["state"]), (in_house, ["state_at", 1]), (in_house, ["state_at", [1, [1]]]), (in_house, ["here"]), (in_house, ["branches"]), (in_house, ["script", "main"]), (in_house, ["script", [["a"]]]), (in_house, ["place", "side"]),
    (in_house, ["edit", 0, ("name", "far", LINE)]), (in_house, ["edit", [0], None]), (in_house, ["insert", 1, ("name", "z", LINE)]), (in_house, ["insert", {"a": []}, None]), (in_house, ["remove", 1]), (in_house, ["remove", [[0]]]),
    (in_house, ["hangs_on", "low"]), (in_house, ["hangs_on", [["a"]]]), (in_house, ["may_swap", 0]), (in_house, ["may_swap", [[0]]]), (in_house, ["merge", "side"]), (in_house, ["merge", [["a"]]]),
    (in_house, ["would_change", [("drop", "far"), ("name", "low", "b")]]), (in_house, ["would_change", [["drop", [["a"]]]]]), (in_house, ["tried", [("drop", "far"), ("name", "far", LINE)]]), (in_house, ["tried", [("drop", "w"), ("drop", ["w"])]]),
    (in_house, ["trace", (ZERO, ONE)]), (in_house, ["trace", [[0, 1], {"a": [1]}]]), (in_console, ["name a b"]), (in_console, [["name a b", {"a": [1]}]])]


def lists_in(thing):
    """All lists and dicts in a thing, in attributes of errors too."""
    if isinstance(thing, dict):
        return [thing, *sum([lists_in(part) for part in thing.values()], [])]
    if isinstance(thing, (list, tuple)):
        return [thing] * isinstance(thing, list) + sum([lists_in(part) for part in thing], [])
    if isinstance(thing, Exception):
        return sum([lists_in(part) for part in vars(thing).values()], []) + lists_in(thing.args)
    if isinstance(thing, (trees.Program, sizes.Size)):
        return lists_in(list(vars(thing).values()))[1:]
    return []


def told_by(function, parts):
    try:
        return function(*parts)
    except (LineError, NotThere) as error:
        return error


class Arguments(unittest.TestCase):
    def test_nothing_that_is_handed_in_is_changed(self):
        for function, parts in CALLS:
            kept = copy_of(parts)
            told_by(function, parts)
            self.assertTrue(is_same_thing(parts, kept), function)

    def test_nothing_that_is_handed_in_is_kept_or_told(self):
        for function, parts in CALLS:
            told = told_by(function, parts)
            handed_in = lists_in(parts)
            for one in lists_in(told):
                self.assertFalse(any(one is other for other in handed_in), function)

    def test_told_lists_are_new_each_time(self):
        for function, parts in CALLS:
            first, second = told_by(function, parts), told_by(function, parts)
            if isinstance(first, (trees.Program, sizes.Size)):
                self.assertEqual(first, second)
                continue
            for one in lists_in(first):
                self.assertFalse(any(one is other for other in lists_in(second)), function)
            if isinstance(first, Exception):
                self.assertEqual(vars(first), vars(second))
                continue
            kept = copy_of(first)
            for one in lists_in(first):
                one.clear()
            self.assertTrue(is_same_thing(told_by(function, parts), kept), function)
            self.assertTrue(is_same_thing(second, kept), function)

    def test_what_is_told_is_of_the_kind_that_is_told(self):
        kinds = {points.spread: list, making.orbits: list, algebra.orbit_sets: list, running.run: dict, making.made: tuple, placing.shape: tuple, values.support: tuple,
                 likeness.alike_moves: tuple, algebra.joined_points: tuple, running.run_count: int, products.many_pairs: int, running.is_told: bool, making.is_in: bool,
                 trees.is_kind: bool, trees.is_of: bool, algebra.is_within: bool, placing.are_alike: bool, points.is_before: bool, values.value_text: str, plainrun.is_plain: bool, plainrun.plain_run: dict, samples.members_on: list,
                 samples.count: int, programtexts.program_text: str, greater.as_great: tuple, greater.into: tuple, greater.into_map: tuple, greater.order: int, rounds.lengths: list, rounds.levels: list,
                 rounds.come_round: tuple, rounds.track: tuple, bars.bars: list, bars.intervals: tuple, picks.plenty: tuple, picks.pick: tuple, webs.path: tuple, webs.farthest: int, rings.ring: tuple, rings.heights: tuple, rings.odd_ring: tuple, machines.run_word: tuple, machines.takes: bool,
                 machines.other_machine: tuple, machines.turned_machine: tuple, machines.moved_machine: tuple, words.alike_machines: tuple, words.both_machines: tuple, least.least_machine: tuple,
                 facts.least_facts: dict, facts.tree_of: tuple, games.ranks: list, plans.book: tuple, plans.ranks_with: list, plans.play: list, deeds.behind: dict, deeds.differences: dict, deeds.reads: list, deeds.writes: list,
                 deeds.deed_text: str, deeds.read_deed: tuple, in_console: str}
        for function, parts in CALLS:
            told = told_by(function, parts)
            if function in kinds and not isinstance(told, Exception):
                self.assertIs(type(told), kinds[function], function)

    def test_the_interface_is_defined_where_it_is_listed(self):
        listed = {
            points: "make_point is_before gap_of spread", values: "support depth value_text", placing: "moved placed are_alike shape",
            making: "made orbits is_in needed", reading: "check_value read_value",
            algebra: "joined_points join both less is_within outside orbit_sets all_of", products: "merges many_pairs pairs firsts seconds",
            likeness: "alike_moves", trees: "is_kind is_of Program", running: "run run_count is_told",
            plainrun: "is_plain plain_run", programtexts: "moved_program renamed_program program_text read_program", samples: "members_on count",
            sizes: "Size size_of", greater: "as_great into_map into order standard",
            maps: "judge_map value_at image identity then back one_to_one onto", rounds: "power come_round track heart lengths levels fixed",
            bars: "intervals fitting bars pickable barred_at", picks: "enough plenty pick judge_pick picked",
            webs: "places reached fewest_steps path closure at_steps farthest judge_path", rooms: "both_ways room_of rooms linked",
            rings: "ring judge_ring heights judge_heights odd_ring judge_odd", machines: "judge_machine run_word takes other_machine turned_machine moved_machine",
            words: "reached word_to first_word alike_machines judge_alike both_machines either_machine", least: "least_machine lead matched", rules: "check_rules",
            facts: "least_facts rank_of tree_of judge_tree judge_closed", games: "ranks lost judge_lost downs", plans: "book judge_book ranks_with plan_with play",
            deeds: "behind reads writes differences deed_text read_deed", house: "House", console: "Console"}
        for module, names in listed.items():
            for name in names.split():
                self.assertEqual(getattr(module, name).__module__, module.__name__, name)

    def test_methods_stand_in_their_classes(self):
        listed = {
            trees.Program: "inputs functions block kinds __eq__", sizes.Size: "__call__ __add__ __sub__ __neg__ __mul__ __rmul__ __eq__ finer greatest at_most", console.Console: "house say",
            house.House: "do undo redo branch go state state_at here branches script place twin __eq__ edit insert remove hangs_on may_swap merge would_change tried trace"}
        for told, names in listed.items():
            for name in names.split():
                self.assertIn(name, vars(told), told)


if __name__ == "__main__":
    unittest.main()
