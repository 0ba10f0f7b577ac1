import unittest

from gapwise.errors import NoPoint
from gapwise.making import EMPTY, LINE, made
from gapwise.plainrun import is_plain, plain_run
from gapwise.running import run
from gapwise.samples import all_on
from gapwise.trees import Program
from gapwise.values import support
from tests.helping import ascending, copy_of, is_same_thing, seeded
from tests.test_running import (
    FALSE, HALF, LINE_E, ONE, PAIR, POINT, POINTS, THREE, TRUE, TWO, WORD, X, Y, Z, ZERO, empty, let, loop, point, when)

PAIRS = ("set", PAIR)
S, R, P = ("name", "s"), ("name", "r"), ("name", "p")


def row(*parts):
    return ("row", parts)


def add(*parts, name="r"):
    return ("add", row(*parts), name)


def program(*block, inputs=(), functions=()):
    return Program(inputs, functions, block)


OUT = empty("r", PAIR)
SINGLES = empty("r", ("row", POINT))


class IsPlain(unittest.TestCase):
    def is_plain(self, *block, **parts):
        return is_plain(program(*block, **parts))

    def test_plain_ones(self):
        self.assertIs(self.is_plain(), True)
        self.assertIs(self.is_plain(SINGLES), True)
        self.assertTrue(self.is_plain(OUT, loop("x", loop("y", add(X, Y)))))
        self.assertTrue(self.is_plain(OUT, loop("x", loop("y", add(Y, X), over=S)), inputs=(("s", POINTS),)))
        self.assertTrue(self.is_plain(SINGLES, when(TRUE, add(point(1)))))
        self.assertTrue(self.is_plain(let("a", point(1)), let("b", row(("name", "a"), ("word", "c"))), SINGLES, when(TRUE, let("d", ("item", 0, ("name", "b"))))))
        self.assertTrue(self.is_plain(SINGLES, loop("x", when(("in", X, S), add(X))), inputs=(("s", POINTS), ("p", POINT))))
        self.assertTrue(self.is_plain(SINGLES, loop("x", when(("not", ("and", ("before", X, P), ("or", ("same", X, P), TRUE))), add(X))), inputs=(("p", POINT),)))
        self.assertTrue(self.is_plain(SINGLES, loop("x", loop("y"), when(FALSE, let("z", X)), add(X))))
        self.assertTrue(self.is_plain(empty("r", ("row", WORD, ("row", WORD))), loop("x", add(("item", 0, X), X), over=S), inputs=(("s", ("set", ("row", WORD))),)))

    def test_functions_and_inputs(self):
        self.assertFalse(self.is_plain(functions=(("f", (), point(1)),)))
        self.assertTrue(self.is_plain(inputs=(("p", POINT), ("q", ("row", WORD, PAIR)), ("s", PAIRS))))
        self.assertFalse(self.is_plain(inputs=(("s", ("set", POINTS)),)))
        self.assertFalse(self.is_plain(inputs=(("s", ("row", POINTS)),)))
        self.assertFalse(self.is_plain(inputs=(("s", ("set", ("row", POINT, POINTS))),)))

    def test_lets(self):
        self.assertFalse(self.is_plain(let("a", LINE_E)))
        self.assertFalse(self.is_plain(let("a", ("set", POINT, (point(1),)))))
        self.assertFalse(self.is_plain(empty("r", POINTS)))
        self.assertFalse(self.is_plain(let("a", row(LINE_E))))
        self.assertFalse(self.is_plain(let("a", row(S)), inputs=(("s", POINTS),)))
        self.assertFalse(self.is_plain(SINGLES, let("a", R)))
        self.assertFalse(self.is_plain(when(TRUE, SINGLES)))
        self.assertFalse(self.is_plain(loop("x", SINGLES)))
        self.assertFalse(self.is_plain(let("a", ("item", 0, row(point(1), LINE_E)))))

    def test_statements(self):
        self.assertFalse(self.is_plain(SINGLES, add(point(1))))
        self.assertFalse(self.is_plain(SINGLES, ("grow", "r", R, ())))
        self.assertFalse(self.is_plain(empty("r", POINT), loop("x", ("add", X, "r"))))
        self.assertFalse(self.is_plain(SINGLES, loop("x", add(point(1)))))
        self.assertFalse(self.is_plain(SINGLES, loop("x", loop("y", add(X)))))
        self.assertFalse(self.is_plain(empty("r", ("row", ("row", POINT))), loop("x", add(row(X)))))
        self.assertFalse(self.is_plain(loop("x", ("add", row(X), "s")), inputs=(("s", ("set", ("row", POINT))),)))
        self.assertFalse(self.is_plain(SINGLES, loop("x", let("y", X), add(Y))))
        self.assertFalse(self.is_plain(OUT, loop("x", ("add", X, "r"), over=S), inputs=(("s", PAIRS),)))
        self.assertFalse(self.is_plain(empty("r", ("row", POINTS, POINT)), ("for", "x", LINE_E, (("add", row(S, X), "r"),)), inputs=(("s", POINTS),)))

    def test_overs_and_conditions(self):
        self.assertFalse(self.is_plain(SINGLES, loop("x", add(X), over=("set", POINT, (point(1),)))))
        self.assertFalse(self.is_plain(empty("r", ("row", ("row", POINT))), SINGLES[:1] + ("q",) + SINGLES[2:], loop("x", add(X), over=("name", "q"))))
        self.assertFalse(self.is_plain(SINGLES, loop("x", add(X), over=("join", LINE_E, LINE_E))))
        for condition in (("in", X, LINE_E), ("in", ("row", (X,)), R), ("within", LINE_E, LINE_E), ("some", "y", LINE_E, TRUE), ("every", "y", LINE_E, TRUE),
                          ("same", LINE_E, LINE_E), ("not", ("some", "y", LINE_E, TRUE)), ("and", TRUE, ("within", LINE_E, LINE_E)), ("or", ("in", X, LINE_E), TRUE)):
            self.assertFalse(self.is_plain(SINGLES, loop("x", when(condition, add(X)))), condition)
        self.assertFalse(self.is_plain(SINGLES, loop("x", when(TRUE, add(point(1))))))
        # Of a flat kind, but no flat expression.
        bent = ("item", 0, row(X, LINE_E))
        for condition in (("same", bent, X), ("same", X, bent), ("before", bent, X), ("before", X, bent), ("in", bent, S)):
            self.assertFalse(self.is_plain(SINGLES, loop("x", when(condition, add(X))), inputs=(("s", POINTS),)), condition)


class PlainRun(unittest.TestCase):
    def check(self, made_of, values, sample):
        """What it tells are just the members, on the sample, of what run tells."""
        self.assertTrue(is_plain(made_of))
        kept = copy_of(values)
        told = plain_run(made_of, values, sample)
        self.assertTrue(is_same_thing(values, kept))
        ended = run(made_of, values, runs=10 ** 6, members=10 ** 6)
        self.assertEqual(list(told), [thing[1] for thing in made_of.block() if thing[0] == "let" and thing[2][0] == "set"])
        for name in told:
            on_sample = made(sample, [value for value in told[name]])
            found = [value for value in members_on_more(ended[name], sample)]
            self.assertTrue(is_same_thing(told[name], found), (made_of.block(), values, sample, name))
            self.assertEqual(len(on_sample[2]), len(told[name]))
        return told

    def test_loops(self):
        rising = program(OUT, loop("x", loop("y", when(("before", X, Y), add(X, Y)))))
        self.assertEqual(self.check(rising, [], (ZERO, ONE)), {"r": [("row", ZERO, ONE)]})
        self.assertEqual(self.check(rising, [], ()), {"r": []})
        self.assertEqual(len(self.check(rising, [], tuple((k, 1) for k in range(8)))["r"]), 28)
        both = program(OUT, loop("x", loop("y", add(Y, X), over=S)), inputs=(("s", POINTS),))
        self.check(both, [made((ZERO,), [ONE])], (ZERO, ONE, TWO))
        self.check(both, [EMPTY], (ONE, TWO))
        rows = program(empty("r", ("row", PAIR, POINT)), loop("x", add(X, ("item", 1, X)), over=S), inputs=(("s", PAIRS),))
        self.check(rows, [made((ONE,), [("row", ONE, TWO), ("row", TWO, THREE), ("row", ZERO, ZERO)])], (ZERO, HALF, ONE, TWO, THREE))

    def test_words_in_a_loop(self):
        words = program(empty("r", ("row", WORD, POINT)), loop("x", add(X, P), over=S), inputs=(("s", ("set", WORD)), ("p", POINT)))
        told = self.check(words, [made((), ["b", "a"]), TWO], (TWO, THREE))
        self.assertEqual(told, {"r": [("row", "a", TWO), ("row", "b", TWO)]})

    def test_ifs_lets_and_conditions(self):
        below = ("before", X, P)
        one = program(SINGLES, empty("q", ("row", POINT, POINT)), let("two", row(point(2), P)),
                      loop("x", ("if", below, (add(X),), (let("y", X), add(X, ("item", 0, ("name", "two")), name="q")))), inputs=(("p", POINT),))
        told = self.check(one, [ONE], (ZERO, ONE, TWO, THREE))
        self.assertEqual(told["r"], [("row", ZERO)])
        self.assertEqual(told["q"], [("row", at, TWO) for at in (ONE, TWO, THREE)])
        inner = ("or", ("and", ("in", X, S), ("not", ("same", X, P))), ("before", point(2), X))
        self.check(program(SINGLES, loop("x", when(inner, add(X))), inputs=(("p", POINT), ("s", POINTS))), [ONE, made((ONE,), [ZERO, ONE])], (ZERO, HALF, ONE, TWO, THREE))
        either = program(SINGLES, ("if", TRUE, (add(point(1)),), (add(point(2)),)), ("if", FALSE, (add(point(1)),), (add(point(0)),)))
        self.assertEqual(self.check(either, [], (ZERO, ONE, TWO)), {"r": [("row", ZERO), ("row", ONE)]})
        around = program(SINGLES, when(TRUE, loop("x", add(X))), ("if", FALSE, (loop("x", add(X)),), ()))
        self.check(around, [], (ZERO, TWO))
        pair_in = program(OUT, loop("x", loop("y", when(("in", row(Y, X), S), add(X, Y)))), inputs=(("s", PAIRS),))
        self.check(pair_in, [made((), [("row", ZERO, ONE)])], (ZERO, ONE, TWO))

    def test_names_end_with_their_blocks(self):
        twice = program(SINGLES, when(TRUE, let("y", point(1)), add(Y)),
                        when(TRUE, let("y", point(0)), add(Y)), loop("y", add(Y)))
        self.check(twice, [], (ZERO, ONE, TWO))

    def test_many_loops_that_add_nothing(self):
        inner = loop("h")
        for name in "gfedcba":
            inner = loop(name, let(name + name, ("name", name)), inner)
        deep = program(SINGLES, inner, loop("x", add(X)))
        self.assertEqual(len(plain_run(deep, [], tuple((k, 1) for k in range(8)))["r"]), 8)

    def test_four_loops_on_eight_points(self):
        four = empty("r", ("row", POINT, POINT, POINT, POINT))
        names = [("name", name) for name in "abcd"]
        inner = when(("and", ("before", names[0], names[1]), ("before", names[1], names[2])), add(*names))
        for name in "dcba":
            inner = loop(name, inner)
        told = plain_run(program(four, inner), [], tuple((k, 2) if k % 2 else (k // 2, 1) for k in range(8)))
        self.assertEqual(len(told["r"]), 56 * 8)

    def test_more_members_than_run_would_tell(self):
        named = program(empty("r", PAIR), loop("x", loop("y", add(X, Y), over=S), over=S), inputs=(("s", POINTS),))
        points = tuple((k, 1) for k in range(30))
        self.assertEqual(len(plain_run(named, [LINE], points)["r"]), 900)

    def test_no_point(self):
        one = program(SINGLES, when(("same", point(5), point(7, 2)), add(point(3))), inputs=(("p", POINT), ("s", POINTS)))
        values = [TWO, made((ZERO,), [ONE])]
        for sample, point_lacking in (((), ZERO), ((ZERO,), TWO), ((ZERO, TWO), THREE), ((ZERO, TWO, THREE), (7, 2)), ((ZERO, TWO, THREE, (7, 2)), (5, 1))):
            with self.assertRaises(NoPoint) as caught:
                plain_run(one, values, sample)
            self.assertEqual(caught.exception.point, point_lacking)
        self.assertEqual(plain_run(one, values, (ZERO, TWO, THREE, (7, 2), (5, 1))), {"r": []})

    def test_told_lists_are_new(self):
        rising = program(OUT, loop("x", loop("y", add(X, Y))))
        told = plain_run(rising, [], (ZERO,))
        told["r"].clear()
        self.assertEqual(plain_run(rising, [], (ZERO,)), {"r": [("row", ZERO, ZERO)]})

    def test_by_chance(self):
        chance = seeded(71)
        for _ in range(300):
            made_of, values = PlainMaker(chance).program()
            points = ascending([ZERO, ONE, TWO] + [point for value in values for point in support(value)])
            points = ascending([*points, *chance.sample([(5, 2), (-3, 1), HALF, (9, 1)], chance.choice([0, 1, 2]))])
            self.check(made_of, values, points)


def members_on_more(many, sample):
    """The members on a sample that perhaps lacks points of many."""
    return [value for value in all_on(many, ascending([*many[1], *sample])) if set(support(value)) <= set(sample)]


class PlainMaker:
    """Makes plain programs over the points 0, 1 and 2."""

    def __init__(self, chance):
        self.chance = chance
        self.many = 0

    def program(self):
        values = [self.chance.choice([ZERO, ONE]), made((ONE,), self.chance.sample([ZERO, ONE, TWO], 2)),
                  made(self.chance.choice([(), (ZERO,)]), [("row", self.chance.choice("ab"), ONE), ("row", "a", ZERO)])]
        inputs = (("p", POINT), ("s", POINTS), ("t", ("set", ("row", WORD, POINT))))
        kinds = {"p": POINT}
        sets = (empty("r", ("row", POINT, POINT, POINT)), empty("q", ("row", POINT, POINT, POINT, POINT)))
        return Program(inputs, (), (*sets, *self.block(kinds, (), 3, False))), values

    def fresh(self):
        self.many += 1
        return "n" + "abcdefghijklmnopqrstuvwxyz"[self.many % 26] + "abcdefghijklmnopqrstuvwxyz"[self.many // 26]

    def a_point(self, kinds):
        names = [("name", name) if kind == POINT else ("item", 1, ("name", name)) for name, kind in kinds.items()]
        return self.chance.choice([*names, *names, point(self.chance.choice([0, 1, 2]))])

    def condition(self, kinds, deep):
        draw = self.chance.random()
        if deep and draw < 0.2:
            return ("not", self.condition(kinds, deep - 1))
        if deep and draw < 0.5:
            return (self.chance.choice(["and", "or"]), self.condition(kinds, deep - 1), self.condition(kinds, deep - 1))
        if draw < 0.65:
            return ("in", self.a_point(kinds), ("name", "s"))
        if draw < 0.75:
            return ("in", ("row", (("word", "a"), self.a_point(kinds))), ("name", "t"))
        return (self.chance.choice(["before", "before", "same"]), self.a_point(kinds), self.a_point(kinds))

    def block(self, kinds, loops, deep, inside):
        kinds, found = dict(kinds), []
        for _ in range(self.chance.choice([1, 2])):
            draw = self.chance.random()
            if inside and (draw < 0.5 or deep == 0):
                parts = [*[("name", name) for name in loops if kinds[name] == POINT]]
                if len(parts) == len(loops):
                    name = self.chance.choice(["r", "q"])
                    parts += [self.a_point(kinds) for _ in range((3 if name == "r" else 4) - len(parts))]
                    self.chance.shuffle(parts)
                    found.append(("add", ("row", tuple(parts)), name))
            elif draw < 0.6:
                name = self.fresh()
                found.append(("let", name, self.a_point(kinds)))
                kinds[name] = POINT
            elif draw < 0.7 and deep:
                found.append(("if", self.condition(kinds, 2), self.block(kinds, loops, deep - 1, True), self.block(kinds, loops, deep - 1, True)))
            elif deep:
                name = self.fresh()
                over, kind = self.chance.choice([(LINE_E, POINT), (LINE_E, POINT), (("name", "s"), POINT)])
                found.append(("for", name, over, self.block({**kinds, name: kind}, (*loops, name), deep - 1, True)))
        return tuple(found)


if __name__ == "__main__":
    unittest.main()
