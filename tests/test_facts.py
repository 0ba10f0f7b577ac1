import unittest

from gapwise.algebra import is_within, join, less
from gapwise.errors import TooMany
from gapwise.facts import judge_closed, judge_tree, least_facts, rank_of, tree_of
from gapwise.making import EMPTY, LINE, is_in, made, needed, orbits
from gapwise.placing import moved
from gapwise.points import merged_points
from gapwise.reading import check_value
from gapwise.sizes import Size
from gapwise.values import support
from gapwise.webs import closure
from tests.helping import ascending, copy_of, is_same_thing, seeded, some_points
from tests.plain_facts import all_points, is_fact, made_by, match, some_case, stores_by_rank
from tests.relations import HALF, ONE, THREE, TWO, ZERO, only, some_part, some_web

FAR = ((("far", ("x", "y")), (("next", ("x", "y")),), ()), (("far", ("x", "z")), (("far", ("x", "y")), ("next", ("y", "z"))), ()))
TWICE = (FAR[0], (("far", ("x", "z")), (("far", ("x", "y")), ("far", ("y", "z"))), ()))
RISING = made((), [("row", ZERO, ONE)])
LETTERS = "abcdefghijklmnopqrstuvwxyz"
WORDS = [a + b for a in LETTERS for b in LETTERS]


def chain(many):
    return made((), [("row", one, other) for one, other in zip(WORDS[:many], WORDS[1:many + 1])])


def rule(head, body, *tests):
    return ((head[0], tuple(head[1:])), tuple((name, tuple(terms)) for name, *terms in body), tests)


def only_fact(rules, given, name):
    return least_facts(rules, given)[name]


class LeastFacts(unittest.TestCase):
    def test_known_ones(self):
        self.assertEqual(least_facts((), {}), {})
        self.assertEqual(least_facts((), {"b": RISING, "a": EMPTY}), {"b": RISING, "a": EMPTY})
        self.assertEqual(least_facts(FAR, {"next": RISING})["far"], RISING)
        self.assertEqual(least_facts(FAR, {}), {"far": EMPTY, "next": EMPTY})
        down = made((), [("row", ZERO, "a"), ("row", "a", "b")])
        self.assertEqual(least_facts(FAR, {"next": down})["far"], join(down, made((), [("row", ZERO, "b")])))
        self.assertEqual(least_facts(FAR, {"next": down, "far": made((), [("row", "b", "c")])})["far"], join(down, made((), [("row", ZERO, "b"), ("row", "b", "c")])))
        self.assertEqual(len(only_fact(TWICE, {"next": chain(10)}, "far")[2]), 55)

    def test_names_in_their_order(self):
        rules = (rule(("c", "x"), [("b", "x"), ("a", "x")]), rule(("z", "x"), [("c", "x"), ("y", "x"), ("b", "x")]))
        self.assertEqual(list(least_facts(rules, {})), ["c", "b", "a", "z", "y"])
        self.assertEqual(list(least_facts(rules, {"y": EMPTY, "q": EMPTY, "a": EMPTY})), ["y", "q", "a", "c", "b", "z"])
        self.assertIsNot(least_facts((), {}), least_facts((), {}))

    def test_tests(self):
        points = {"p": made((), [("row", ZERO), ("row", "a"), ("row", ("row", ZERO))])}
        pair = [("p", "x"), ("p", "y")]
        self.assertEqual(only_fact((rule(("q", "x", "y"), pair, ("before", "x", "y")),), points, "q"), RISING)
        self.assertEqual(only_fact((rule(("q", "x", "y"), pair, ("before", "x", "y"), ("before", "y", "x")),), points, "q"), EMPTY)
        same = only_fact((rule(("q", "x", "y"), pair, ("same", "x", "y")),), points, "q")
        self.assertEqual(same, made((), [("row", ZERO, ZERO), ("row", "a", "a"), ("row", ("row", ZERO), ("row", ZERO))]))
        unlike = only_fact((rule(("q", "x", "y"), pair, ("unlike", "x", "y")),), points, "q")
        self.assertEqual([is_in(("row", *row), unlike) for row in (("a", "a"), (ZERO, ZERO), (ZERO, ONE), (ONE, ZERO), ("a", ONE), (ONE, ("row", ONE)))], [False, False, True, True, True, True])
        one = [("p", "x")]
        for tests, kept in ((("before", "x", ("value", ZERO)), [(-1, 1)]), (("before", ("value", ZERO), "x"), [ONE]), (("same", "x", ("value", ZERO)), [ZERO]), (("same", ("value", "a"), "x"), ["a"]),
                            (("unlike", "x", ("value", ZERO)), [(-1, 1), ONE, "a", ("row", ZERO), ("row", ONE), ("row", (-1, 1))]), (("before", "x", ("value", "a")), []), (("before", ("value", ("row", ZERO)), "x"), []),
                            (("same", ("value", "a"), ("value", "b")), []), (("before", ("value", ONE), ("value", ZERO)), []), (("unlike", "x", "x"), []), (("before", "x", "x"), []),
                            (("unlike", ("value", ZERO), ("value", ZERO)), [])):
            told = only_fact((rule(("q", "x"), one, tests),), points, "q")
            self.assertEqual(told, made((ZERO,), [("row", value) for value in kept]), tests)
        for tests in (("same", "x", "x"), ("same", ("value", ZERO), ("value", ZERO)), ("before", ("value", ZERO), ("value", ONE)), ("unlike", ("value", ZERO), ("value", "a"))):
            self.assertEqual(only_fact((rule(("q", "x"), one, tests),), points, "q"), points["p"])

    def test_same_chains(self):
        sets = {"p": made((), [("row", ZERO), ("row", "a")])}
        told = only_fact((rule(("q", "x", "y", "z"), [("p", "x"), ("p", "y"), ("p", "z")], ("same", "x", "y"), ("same", "z", "y"), ("same", "x", ("value", ONE))),), sets, "q")
        self.assertEqual(told, only(("row", ONE, ONE, ONE)))
        told = only_fact((rule(("q", "x"), [("p", "x"), ("p", "y")], ("same", "x", ("value", ONE)), ("same", "y", ("value", "a")), ("same", "x", "y")),), sets, "q")
        self.assertEqual(told, EMPTY)

    def test_values_in_rules(self):
        sets = {"p": made((), [("row", ZERO, "a"), ("row", LINE, "b"), ("row", ("set", (ZERO,), (ONE,)), "a")])}
        told = only_fact((rule(("q", ("value", TWO), "x"), [("p", "x", ("value", "a"))]),), sets, "q")
        self.assertEqual(told, made((TWO,), [("row", TWO, value) for value in (ONE, TWO, THREE, made((ONE,), [TWO]), made((TWO,), [THREE]), made((THREE,), [(4, 1)]))]))
        self.assertEqual(only_fact((rule(("q", "x"), [("p", ("value", LINE), "x")]),), sets, "q"), made((), [("row", "b")]))
        self.assertEqual(only_fact((rule(("q", "x"), [("p", ("value", ONE), "x")]),), sets, "q"), made((), [("row", "a")]))
        self.assertEqual(only_fact((rule(("q", "x"), [("p", ("value", made((ONE,), [TWO])), "x")]),), sets, "q"), made((), [("row", "a")]))
        self.assertEqual(only_fact((rule(("q", "x"), [("p", ("value", made((ONE,), [ZERO])), "x")]),), sets, "q"), EMPTY)

    def test_points_of_all_parts_of_rules(self):
        # The points of a value in a head, in a body or in a test part the facts.
        above = made((ONE,), [("row", TWO)])
        self.assertEqual(only_fact((rule(("q", "y"), [("next", ("value", ONE), "y")]),), {"next": RISING}, "q"), above)
        self.assertEqual(only_fact((rule(("q", "y"), [("next", "x", "y")], ("same", ("value", ONE), "x")),), {"next": RISING}, "q"), above)
        self.assertEqual(only_fact((rule(("q", "y"), [("next", "x", "y")], ("same", "x", ("value", ONE))),), {"next": RISING}, "q"), above)
        self.assertEqual(only_fact((rule(("q", ("value", ONE), "y"), [("next", "x", "y")]),), {"next": RISING}, "q"), made((ONE,), [("row", ONE, point) for point in (ZERO, ONE, TWO)]))
        self.assertEqual(only_fact((rule(("q", "y"), [("next", "z", "z"), ("next", "x", "y")]),), {"next": RISING}, "q"), EMPTY)
        line = {"next": made((), [("row", word, ZERO) for word in WORDS[:201]])}
        for one in (rule(("q", "x"), [("next", "x", ("value", ONE))]), rule(("q", ("value", ONE)), [("next", "x", "y")]), rule(("q", "x"), [("next", "x", "y")], ("unlike", ("value", ONE), "x")), rule(("q", "x"), [("next", "x", "y")], ("unlike", "x", ("value", ONE)))):
            self.assertRaises(TooMany, least_facts, (one,), line)

    def test_rows_of_several_sizes(self):
        sets = {"p": made((), [("row", "a"), ("row", "a", "b"), ("row", "a", "b", "c"), ("row", "a", "a")])}
        self.assertEqual(only_fact((rule(("q", "x"), [("p", "x", "y")]),), sets, "q"), made((), [("row", "a")]))
        self.assertEqual(only_fact((rule(("q", "y"), [("p", "x", "y")]),), sets, "q"), made((), [("row", "a"), ("row", "b")]))
        self.assertEqual(only_fact((rule(("q", "x"), [("p", "x", "x")]),), sets, "q"), made((), [("row", "a")]))
        self.assertEqual(only_fact((rule(("p", "z"), [("p", "x", "y", "z")]),), sets, "p"), join(sets["p"], made((), [("row", "c")])))
        self.assertEqual(only_fact((rule(("q", "x"), [("p", "x", "y", "z", "u")]),), sets, "q"), EMPTY)

    def test_just_above_600(self):
        self.assertEqual(len(only_fact(FAR, {"next": chain(34)}, "far")[2]), 595)
        self.assertRaises(TooMany, least_facts, FAR, {"next": chain(35)})
        # 24 times 25 pairs are let, and 25 times 25 are not.
        both = (rule(("q", "x", "y"), [("p", "x"), ("r", "y")]),)
        rows = [("row", word) for word in WORDS]
        self.assertEqual(len(only_fact(both, {"p": made((), rows[:24]), "r": made((), rows[:25])}, "q")[2]), 600)
        self.assertRaises(TooMany, least_facts, both, {"p": made((), rows[:25]), "r": made((), rows[:25])})
        # The points of the rules and of other sets count, also where a name stands in no rule.
        line = made((), [("row", word, ZERO) for word in WORDS[:201]])
        self.assertEqual(least_facts((), {"p": line}), {"p": line})
        self.assertRaises(TooMany, least_facts, (), {"p": line, "q": only(("row", ZERO))})
        self.assertRaises(TooMany, least_facts, (rule(("q", ("value", ZERO)), [("r", "x")]),), {"p": line})
        fewer = made((), [("row", word, ZERO) for word in WORDS[:200]])
        self.assertEqual(list(least_facts((), {"p": fewer, "q": only(("row", ZERO))})), ["p", "q"])
        for call in (rank_of, tree_of):
            self.assertRaises(TooMany, call, FAR, {"next": chain(35)}, "next", ("row", "aa", "ab"))

    def test_by_chance(self):
        chance, seen = seeded(231), {}
        for _ in range(300):
            rules, given = some_case(chance)
            kept = copy_of([rules, given])
            told = least_facts(rules, given)
            stores = stores_by_rank(rules, given)
            self.assertEqual(told, stores[-1])
            self.assertEqual(list(told), list(stores[-1]))
            self.assertTrue(is_same_thing([rules, given], kept))
            self.assertIsNone(judge_closed(rules, given, told))
            for many in told.values():
                check_value(many)
            seen[len(stores)] = seen.get(len(stores), 0) + 1
        self.assertLessEqual({1, 2, 3}, set(seen))
        self.assertGreater(seen[2], 50)

    def test_walks_of_webs(self):
        chance = seeded(232)
        for _ in range(60):
            web = some_web(chance)
            self.assertEqual(only_fact(FAR, {"next": web}, "far"), closure(web))
            self.assertEqual(only_fact(TWICE, {"next": web}, "far"), closure(web))

    def test_what_is_led_is_told_led(self):
        chance = seeded(233)
        for _ in range(60):
            rules, given = some_case(chance)
            move = tuple((old, (3 * at + 1, 2)) for at, old in enumerate(all_points(rules, given)))
            self.assertEqual(least_facts(led_rules(rules, move), {name: moved(many, move) for name, many in given.items()}), {name: moved(many, move) for name, many in least_facts(rules, given).items()})


def led_rules(rules, move):
    def led(term):
        return term if isinstance(term, str) else ("value", moved(term[1], move))
    return tuple(((head, tuple(map(led, terms))), tuple((name, tuple(map(led, more))) for name, more in body), tuple((word, led(s), led(t)) for word, s, t in tests)) for (head, terms), body, tests in rules)


def height(tree):
    return 1 + max([height(one) for one in tree[3]], default=0)


def right_tree(rules, given, tree, path=()):
    """The path to the first wrong one of a tree made of trees, by the words of the document."""
    name, row, number, trees = tree
    if number is None:
        fine = not trees and is_fact(given, name, row)
    else:
        _, body, _ = rules[number]
        fine = rules[number][0][0] == name and len(trees) == len(body) and [one[0] for one in trees] == [one[0] for one in body] and match(rules[number], [one[1] for one in trees]) == row
    if not fine:
        return path
    for at, one in enumerate(trees):
        found = right_tree(rules, given, one, (*path, at))
        if found is not None:
            return found
    return None


class Trees(unittest.TestCase):
    def test_known_ones(self):
        three = {"next": made((ZERO, ONE, TWO), [("row", ZERO, ONE), ("row", ONE, TWO)])}
        self.assertEqual([rank_of(FAR, three, "far", ("row", ZERO, TWO)), rank_of(FAR, three, "far", ("row", ZERO, ONE)), rank_of(FAR, three, "next", ("row", ZERO, ONE))], [2, 1, 0])
        for name, row in (("far", ("row", TWO, ZERO)), ("near", ("row", ZERO, ONE)), ("next", ("row", ZERO, TWO)), ("next", ("row", ZERO)), ("far", ("row", ("row", ("row", ("row", "a")))))):
            self.assertEqual([rank_of(FAR, three, name, row), tree_of(FAR, three, name, row)], [None, None])
        first, second = ("next", ("row", ZERO, ONE), None, ()), ("next", ("row", ONE, TWO), None, ())
        self.assertEqual(tree_of(FAR, three, "far", ("row", ZERO, TWO)), ("far", ("row", ZERO, TWO), 1, (("far", ("row", ZERO, ONE), 0, (first,)), second)))
        self.assertEqual(tree_of(FAR, three, "next", ("row", ZERO, ONE)), first)
        # Given facts have rank 0, made or not.
        self.assertEqual(rank_of(FAR, {**three, "far": only(("row", ZERO, TWO))}, "far", ("row", ZERO, TWO)), 0)
        self.assertEqual([rank_of(FAR, {"next": chain(20)}, "far", ("row", "aa", "au")), rank_of(TWICE, {"next": chain(20)}, "far", ("row", "aa", "au"))], [20, 6])

    def test_facts_with_points_that_are_made_anew(self):
        rules = (rule(("between", "x", "z"), [("next", "x", "y"), ("next", "y", "z")]), rule(("some", ("value", "a")), [("between", "x", "z"), ("next", "z", "u")]))
        given = {"next": RISING}
        row = ("row", HALF, ONE)
        tree = tree_of(rules, given, "between", row)
        self.assertEqual([tree[:3], right_tree(rules, given, tree)], [("between", row, 0), None])
        tree = tree_of(rules, given, "some", ("row", "a"))
        self.assertEqual([tree[2], height(tree), right_tree(rules, given, tree)], [1, 3, None])

    def test_deep_ones(self):
        given = {"next": chain(34)}
        tree = tree_of(FAR, given, "far", ("row", "aa", "bi"))
        self.assertEqual([height(tree), right_tree(FAR, given, tree), judge_tree(FAR, given, tree)], [35, None, None])
        long = {"next": made((), [("row", one, other) for one, other in zip(WORDS[:599], WORDS[1:600])]), "on": only(("row", "aa"))}
        on = (rule(("on", "y"), [("on", "x"), ("next", "x", "y")]),)
        row = ("row", WORDS[590])
        self.assertEqual(rank_of(on, long, "on", row), 590)
        self.assertIsNone(judge_tree(on, long, tree_of(on, long, "on", row)))

    def test_by_chance(self):
        chance, ranks = seeded(234), {}
        for _ in range(200):
            rules, given = some_case(chance)
            stores = stores_by_rank(rules, given)
            points = all_points(rules, given)
            for name, many in stores[-1].items():
                tops = orbits(many, merged_points(points, tuple(some_points(chance, chance.choice([0, 1])))))
                for row in chance.sample(tops, min(3, len(tops))):
                    rank = [is_fact(store, name, row) for store in stores].index(True)
                    self.assertEqual(rank_of(rules, given, name, row), rank)
                    tree = tree_of(rules, given, name, row)
                    self.assertEqual([tree[:2], height(tree)], [(name, row), rank + 1])
                    self.assertIsNone(right_tree(rules, given, tree))
                    self.assertIsNone(judge_tree(rules, given, tree))
                    ranks[rank] = ranks.get(rank, 0) + 1
                row = ("row", some_part(chance, 1), some_part(chance, 1))
                self.assertEqual(tree_of(rules, given, name, row) is None, not is_in(row, many))
        self.assertLessEqual({0, 1, 2}, set(ranks))


class JudgeTree(unittest.TestCase):
    def setUp(self):
        self.given = {"next": made((ZERO, ONE, TWO), [("row", ZERO, ONE), ("row", ONE, TWO)])}
        self.tree = tree_of(FAR, self.given, "far", ("row", ZERO, TWO))

    def judge(self, value):
        return judge_tree(FAR, self.given, value)

    def test_what_is_no_tree(self):
        first = ("next", ("row", ZERO, ONE), None, ())
        for value in (None, 7, "far", (), first[:3], (*first, ()), list(first), {"next": 1}, ("Next", *first[1:]), (True, *first[1:]), ("next", "a", None, ()), ("next", ZERO, None, ()), ("next", LINE, None, ()),
                      ("next", ("row",), None, ()), ("next", ["row", ZERO, ONE], None, ()), ("next", ("row", (False, 1), ONE), None, ()), ("next", ("row", ZERO, ONE), None, []), ("next", ("row", ZERO, ONE), None, None),
                      ("next", ("row", ZERO, ONE), None, (first,)), ("next", ("row", ZERO, TWO), None, ()), ("near", ("row", ZERO, ONE), None, ()), ("next", ("row", ZERO), None, ()), Size(1, []),
                      ("next", ("row", ("row", ("row", ("row", ("row", "a"))))), None, ()), (["next"], ("row", ZERO, ONE), None, ())):
            self.assertEqual(self.judge(value), (), value)
        self.assertIsNone(self.judge(first))

    def test_numbers_and_rules(self):
        name, row, number, trees = self.tree
        self.assertIsNone(self.judge(self.tree))
        for other in (0, 2, -1, True, "1", (1,), None, [1]):
            self.assertEqual(self.judge((name, row, other, trees)), (), other)
        self.assertEqual(self.judge(("far", ("row", ZERO, ONE), False, (("next", ("row", ZERO, ONE), None, ()),))), ())
        self.assertIsNone(self.judge(("far", ("row", ZERO, ONE), 0, (("next", ("row", ZERO, ONE), None, ()),))))
        self.assertEqual(self.judge(("next", row, 1, trees)), ())
        self.assertEqual(self.judge((name, ("row", ZERO, ONE), 1, trees)), ())
        self.assertEqual(self.judge((name, row, 1, trees[::-1])), ())
        self.assertEqual(self.judge((name, row, 1, trees[:1])), ())
        self.assertEqual(self.judge((name, row, 1, (*trees, trees[1]))), ())
        self.assertEqual(self.judge((name, row, 1, ())), ())

    def test_trees_below(self):
        name, row, number, (left, right) = self.tree
        self.assertEqual(self.judge((name, row, 1, (left, None))), ())
        self.assertEqual(self.judge((name, row, 1, (left, right[:3]))), ())
        # A name or a row that is none names no fact, and it is the tree above that is wrong.
        self.assertEqual(self.judge((name, row, 1, (left, ("next", ("row", ONE, (4, 2)), None, ())))), ())
        self.assertEqual(self.judge((name, row, 1, (left, ("Next", right[1], None, ())))), ())
        self.assertEqual(self.judge((name, row, 1, (left, (["next"], right[1], None, ())))), ())
        self.assertEqual(self.judge((name, row, 1, (left, ("next", ["row", ONE, TWO], None, ())))), ())
        # It is given, but by another rule's tree it is not shown.
        self.assertEqual(self.judge((name, row, 1, (left, (*right[:2], 0, ())))), (1,))
        self.assertEqual(self.judge((name, row, 1, (left, (*right[:3], (left,))))), (1,))
        self.assertEqual(self.judge((name, row, 1, (left, (*right[:3], [])))), (1,))
        self.assertEqual(self.judge((name, row, 1, ((*left[:3], (("next", ("row", ZERO, ONE), 5, ()),)), right))), (0, 0))
        self.assertEqual(self.judge((name, row, 1, ((*left[:3], (("next", ("row", ZERO, ONE), 5, ()),)), (*right[:2], 0, ())))), (0, 0))
        self.assertEqual(self.judge((name, row, 1, ((*left[:2], None, ()), (*right[:2], 0, ())))), (0,))
        self.assertEqual(self.judge(("far", ("row", ZERO, TWO), 1, (("far", ("row", ZERO, ONE), 0, (("next", ("row", ZERO, ONE), None, ()),)), ("next", ("row", ONE, TWO), None, ())))), None)

    def test_tests_of_rules(self):
        rules = (rule(("q", "x", "y"), [("p", "x"), ("p", "y")], ("before", "x", "y"), ("unlike", "x", ("value", ONE))),)
        given = {"p": made((), [("row", ZERO), ("row", "a")])}

        def judged(x, y):
            return judge_tree(rules, given, ("q", ("row", x, y), 0, (("p", ("row", x), None, ()), ("p", ("row", y), None, ()))))
        self.assertEqual([judged(ZERO, ONE), judged(ONE, TWO), judged(TWO, ONE), judged(ZERO, ZERO), judged("a", ONE), judged("b", ONE), judged(ZERO, "a"), judged(ZERO, "b")], [None] + [()] * 7)

    def test_sizes_of_rows_and_values_of_rules(self):
        rules = (rule(("q", "x"), [("p", "x", ("value", "a"))]), rule(("q", "x"), [("p", "x", "x")]))
        given = {"p": made((), [("row", ZERO, "a"), ("row", ZERO, "b"), ("row", "b", "b"), ("row", "b"), ("row", "b", "a", "a"), ("row", "ab", "a")])}

        def judged(number, row, *parts):
            return judge_tree(rules, given, ("q", row, number, (("p", ("row", *parts), None, ()),)))
        self.assertEqual([judged(0, ("row", ONE), ONE, "a"), judged(0, ("row", ONE), ONE, "b"), judged(0, ("row", "b"), "b"), judged(0, ("row", "b"), "b", "a", "a"), judged(0, ("row", ONE, ONE), ONE, "a"), judged(0, ("row", TWO), ONE, "a")], [None] + [()] * 5)
        self.assertEqual([judged(1, ("row", "b"), "b", "b"), judged(1, ("row", ONE), ONE, "a"), judged(1, ("row", "a"), ONE, "a")], [None, (), ()])
        # A word is no row, also where its letters would fit.
        for row in ("ba", ("p", "b", "a"), ("set", "b", "a")):
            self.assertEqual(judge_tree(rules, given, ("q", ("row", "b"), 0, (("p", row, None, ()),))), (), row)
            self.assertEqual(judge_tree((rule(("q", "x"), [("p", "x")]),), given, ("q", ("row", "a"), 0, (("p", "ba", None, ()),))), ())

    def test_bent_trees(self):
        chance, seen = seeded(235), {}
        for _ in range(300):
            rules, given = some_case(chance)
            store = stores_by_rank(rules, given)[-1]
            facts = [(name, row) for name, many in store.items() for row in many[2]]
            if not facts:
                continue
            tree = tree_of(rules, given, *chance.choice(facts))
            for _ in range(chance.choice([1, 2])):
                tree = self.bent(chance, tree, facts, len(rules))
            told = judge_tree(rules, given, tree)
            self.assertEqual(told, right_tree(rules, given, tree))
            seen[told if told is None else len(told)] = True
        self.assertLessEqual({None, 0, 1}, set(seen))

    def bent(self, chance, tree, facts, many):
        name, row, number, trees = tree
        if trees and chance.random() < 0.6:
            at = chance.randrange(len(trees))
            return (name, row, number, (*trees[:at], self.bent(chance, trees[at], facts, many), *trees[at + 1:]))
        draw = chance.random()
        if draw < 0.4:
            return (*chance.choice(facts), number, trees)
        if draw < 0.6:
            return (name, row, chance.choice([None, *range(many)]), trees)
        if draw < 0.8:
            return (name, row, number, trees[:-1] if chance.random() < 0.5 else trees[::-1])
        return (name, row, number, trees)


class JudgeClosed(unittest.TestCase):
    def test_known_ones(self):
        three = {"next": made((ZERO, ONE, TWO), [("row", ZERO, ONE), ("row", ONE, TWO)]), "also": only(("row", "a"))}
        least = least_facts(FAR, three)
        self.assertIsNone(judge_closed(FAR, three, least))
        self.assertIsNone(judge_closed((), {}, {}))
        self.assertIsNone(judge_closed(FAR, {}, {}))
        self.assertIsNone(judge_closed(FAR, {"next": EMPTY}, {}))
        word, name, row = judge_closed(FAR, three, {"next": EMPTY})
        self.assertEqual([word, name, is_in(row, three["next"])], ["given", "next", True])
        self.assertEqual(judge_closed(FAR, three, {**least, "next": only(("row", ZERO, ONE))}), ("given", "next", ("row", ONE, TWO)))
        self.assertEqual(judge_closed(FAR, three, {**least, "also": EMPTY}), ("given", "also", ("row", "a")))
        self.assertEqual(judge_closed(FAR, {"also": three["also"], "next": three["next"]}, {})[:2], ("given", "also"))
        self.assertEqual(judge_closed(FAR, three, {**least, "far": less(least["far"], only(("row", ZERO, TWO)))}), ("rule", 1, ("row", ZERO, TWO)))
        self.assertEqual(judge_closed(FAR, three, {**least, "far": less(least["far"], only(("row", ZERO, ONE)))}), ("rule", 0, ("row", ZERO, ONE)))
        self.assertEqual(judge_closed(FAR, three, {**least, "far": EMPTY})[:2], ("rule", 0))
        # What is more than least may ask for still more.
        more = join(least["far"], only(("row", TWO, ZERO)))
        self.assertIsNone(judge_closed(FAR[:1], three, {**least, "far": more}))
        self.assertEqual(judge_closed(FAR, three, {**least, "far": more}), ("rule", 1, ("row", TWO, ONE)))
        self.assertEqual(judge_closed(TWICE, three, {**least, "far": more})[:2], ("rule", 1))
        self.assertIsNone(judge_closed(FAR, {"next": RISING}, {"next": RISING, "far": made((), [("row", ZERO, ONE), ("row", ONE, ZERO), ("row", ZERO, ZERO)])}))

    def test_nothing_is_too_many(self):
        given = {"next": chain(40)}
        store = {"next": chain(40), "far": made((), [("row", WORDS[a], WORDS[b]) for a in range(41) for b in range(a + 1, 41)])}
        self.assertIsNone(judge_closed(TWICE, given, store))
        store["far"] = less_one(store["far"], ("row", "aa", "bo"))
        self.assertEqual(judge_closed(TWICE, given, store), ("rule", 1, ("row", "aa", "bo")))

    def test_bent_stores(self):
        chance, seen = seeded(236), {}
        for _ in range(300):
            rules, given = some_case(chance)
            store = dict(stores_by_rank(rules, given)[-1])
            names = [name for name in store if store[name] != EMPTY] or list(store)
            for _ in range(chance.choice([0, 1, 1, 2])):
                name = chance.choice(names)
                points = merged_points(store[name][1], tuple(some_points(chance, 1)))
                if chance.random() < 0.7 and store[name] != EMPTY:
                    store[name] = less(store[name], made(points, [chance.choice(orbits(store[name], points))]))
                else:
                    store[name] = join(store[name], made(points, [("row", *[some_part(chance, 1) for _ in range(chance.choice([1, 2]))])]))
            told = judge_closed(rules, given, store)
            lacking = [(name, less(given[name], store.get(name, EMPTY))) for name in given]
            lacking = [(name, many) for name, many in lacking if many != EMPTY]
            if lacking:
                self.assertEqual(told[:2], ("given", lacking[0][0]))
                self.assertTrue(is_in(told[2], lacking[0][1]))
            else:
                points = all_points(rules, given, store)
                made_sets = [made_by(one, store, points) for one in rules]
                open_rules = [k for k, one in enumerate(rules) if not is_within(made_sets[k], store.get(one[0][0], EMPTY))]
                if open_rules:
                    self.assertEqual(told[:2], ("rule", open_rules[0]))
                    self.assertTrue(is_in(told[2], made_sets[open_rules[0]]) and not is_fact(store, rules[open_rules[0]][0][0], told[2]))
                else:
                    self.assertIsNone(told)
            seen[told and told[0]] = seen.get(told and told[0], 0) + 1
        self.assertEqual(set(seen), {None, "given", "rule"})
        self.assertGreater(min(seen.values()), 20)


def less_one(many, row):
    return made((), [one for one in many[2] if one != row])


class Greatest(unittest.TestCase):
    def test_finite_sets_with_many_points(self):
        chance = seeded(237)
        given = {}
        for at, name in enumerate(("next", "b", "c", "d", "e")):
            points = [(8 * at + k, 1) for k in range(8)]
            given[name] = made(tuple(points), [("row", chance.choice(points), chance.choice(points)) for _ in range(20)])
        rules = (*TWICE, rule(("all", "x", "y"), [("next", "x", "u"), ("b", "y", "v")], ("before", "x", "y")), rule(("all", "u", "v"), [("d", "x", "u"), ("e", "y", "v"), ("c", "z", "z")], ("unlike", "u", "v")))
        told = least_facts(rules, given)
        self.assertEqual(told, stores_by_rank(rules[:2], given)[-1] | {"all": told["all"]})
        self.assertIsNone(judge_closed(rules, given, told))
        self.assertTrue(all(support(row) == ascending(support(row)) for row in told["all"][2]))
        if told["all"] != EMPTY:
            self.assertTrue(is_in(needed(told["all"], told["all"][1][0])[0], told["all"]))


if __name__ == "__main__":
    unittest.main()
