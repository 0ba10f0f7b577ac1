import unittest

from gapwise.errors import LineError, NotThere, TooMany, UnknownName
from gapwise.making import EMPTY, LINE, made, orbits
from gapwise.placing import moved
from gapwise.running import is_told, run, run_count
from gapwise.trees import Program
from tests.helping import copy_of, is_same_thing
from tests.test_algebra import word_set, words

WORD, POINT = ("word",), ("point",)
PAIR = ("row", POINT, POINT)
POINTS, WORDS, PAIRS = ("set", POINT), ("set", WORD), ("set", PAIR)
SETS = ("set", POINTS)
ZERO, HALF, ONE, TWO, THREE = (0, 1), (1, 2), (1, 1), (2, 1), (3, 1)
ABOVE, OVER = ("set", (ZERO,), (ONE,)), ("set", (ONE,), (TWO,))
RISING = ("set", (), (("row", ZERO, ONE),))
LINE_E = ("line",)
X, Y, Z, P, S, R, T = [("name", word) for word in ("x", "y", "z", "p", "s", "r", "t")]
TRUE, FALSE = ("same", ("word", "a"), ("word", "a")), ("same", ("word", "a"), ("word", "b"))


def point(p, q=1):
    return ("point", (p, q))


def let(name, expression):
    return ("let", name, expression)


def empty(name, kind):
    return ("let", name, ("set", kind, ()))


def loop(name, *block, over=LINE_E):
    return ("for", name, over, block)


def when(condition, *block):
    return ("if", condition, block, ())


def add(expression, name="r"):
    return ("add", expression, name)


def row(*parts):
    return ("row", parts)


def program(*block, inputs=(), functions=()):
    return Program(inputs, functions, block)


class Runs(unittest.TestCase):
    def check(self, told, runs, *block, inputs=(), values=(), functions=()):
        """The values of some names, and the number of runs; enough runs, and one less."""
        made_of = Program(inputs, functions, block)
        values = list(values)
        kept = copy_of(values)
        seen = run(made_of, values)
        self.assertEqual({name: seen[name] for name in told}, told)
        self.assertEqual(list(seen), list(made_of.kinds()))
        self.assertEqual(run_count(made_of, values), runs)
        self.assertTrue(is_same_thing(values, kept))
        self.assertEqual(run(made_of, tuple(values), runs=max(runs, 1)), seen)
        if runs > 1:
            with self.assertRaises(TooMany):
                run(made_of, values, runs=runs - 1)

    def check_members(self, enough, made_of, values=()):
        """The least number of members with which a program can be run."""
        told = run(made_of, list(values))
        self.assertEqual(run(made_of, list(values), members=enough), told)
        if enough > 1:
            with self.assertRaises(TooMany) as caught:
                run(made_of, list(values), members=enough - 1)
            self.assertIsInstance(caught.exception, LineError)


class Expressions(Runs):
    def value(self, expression, inputs=(), values=(), functions=()):
        return run(Program(inputs, functions, (let("zz", expression),)), list(values))["zz"]

    def test_words_points_names_rows_items(self):
        inputs, values = (("p", POINT), ("s", POINTS), ("q", PAIR)), [ZERO, ABOVE, ("row", ONE, TWO)]
        for expression, told in ((("word", "ab"), "ab"), (point(1, 2), HALF), (P, ZERO), (S, ABOVE), (LINE_E, LINE), (row(P, S, ("word", "a")), ("row", ZERO, ABOVE, "a")),
                                 (("item", 0, ("name", "q")), ONE), (("item", 1, ("name", "q")), TWO), (("item", 1, row(P, S)), ABOVE),
                                 (("item", 3, row(P, P, P, point(5))), (5, 1)), (("item", 0, row(row(P, P), P)), ("row", ZERO, ZERO))):
            self.assertEqual(self.value(expression, inputs, values), told)

    def test_sets(self):
        self.assertEqual(self.value(("set", POINT, ())), EMPTY)
        self.assertEqual(self.value(("set", POINT, (point(1), point(0), point(1)))), made((ZERO, ONE), [ZERO, ONE]))
        self.assertEqual(self.value(("set", ("row", POINT, WORD), (row(point(1), ("word", "a")),))), ("set", (ONE,), (("row", ONE, "a"),)))
        self.assertEqual(self.value(("set", POINTS, (LINE_E, S)), (("s", POINTS),), [ABOVE]), made((ZERO,), [LINE, ABOVE]))
        self.assertEqual(self.value(("set", WORD, (("word", "b"), ("word", "a")))), ("set", (), ("a", "b")))

    def test_join_both_less_pairs_all(self):
        inputs, values = (("s", POINTS), ("t", POINTS), ("ss", SETS)), [ABOVE, OVER, made((), [ABOVE])]
        for expression, told in ((("join", T, S), ABOVE), (("both", S, T), OVER), (("less", S, T), made((ZERO, ONE), [ONE, HALF])), (("less", T, S), EMPTY),
                                 (("pairs", T, S), made((ZERO, ONE), orbits(made((), [("row", ZERO, ONE), ("row", ONE, ZERO), ("row", ZERO, ZERO)]), (ZERO, ONE))) and
                                  run(program(let("a", ("pairs", T, S)), inputs=inputs), values)["a"]),
                                 (("all", ("name", "ss")), LINE), (("all", ("set", POINTS, (S, T))), ABOVE), (("pairs", S, ("set", WORD, ())), EMPTY)):
            self.assertEqual(self.value(expression, inputs, values), told)
        self.assertEqual(self.value(("pairs", LINE_E, LINE_E)), ("set", (), (("row", ZERO, ZERO), ("row", ZERO, ONE), ("row", ONE, ZERO))))
        self.assertEqual(self.value(("pairs", S, ("set", WORD, (("word", "a"),))), inputs, values), ("set", (ZERO,), (("row", ONE, "a"),)))

    def test_each(self):
        self.check({"a": ("set", (), (("row", ZERO, ZERO),))}, 1, let("a", ("each", row(X, X), "x", LINE_E, None)))
        self.check({"a": LINE}, 4, let("a", ("each", ("item", 0, X), "x", ("pairs", LINE_E, LINE_E), None)), let("b", ("each", X, "x", LINE_E, TRUE)))
        self.check({"a": made((ZERO,), [ZERO, ONE])}, 3, let("a", ("each", X, "x", LINE_E, ("not", ("before", X, point(0))))))
        self.check({"a": EMPTY}, 0, let("a", ("each", X, "x", ("set", POINT, ()), None)))
        self.check({"a": EMPTY}, 1, let("a", ("each", X, "x", LINE_E, FALSE)))
        self.check({"a": ("set", (), ("a",))}, 1, let("a", ("each", ("word", "a"), "x", LINE_E, None)))
        self.check({"a": made((), [("set", (ZERO,), (ZERO,))])}, 1, let("a", ("each", ("set", POINT, (X,)), "x", LINE_E, None)))
        self.check({"a": made((), [ABOVE])}, 4, let("a", ("each", ("each", Y, "y", LINE_E, ("before", X, Y)), "x", LINE_E, None)))

    def test_each_hangs_on_the_held_points(self):
        above = ("each", X, "x", LINE_E, ("before", P, X))
        self.check({"a": ("set", ((3, 2),), ((5, 2),))}, 3, let("a", above), inputs=(("p", POINT),), values=[(3, 2)])
        self.check({"a": ("set", ((3, 2),), ((5, 2),))}, 5, let("a", above), inputs=(("p", POINT), ("q", POINT)), values=[(3, 2), ONE])
        self.check({"a": ("set", ((3, 2),), ((5, 2),))}, 7, let("a", above), let("b", point(4)), inputs=(("p", POINT), ("q", PAIR)), values=[(3, 2), ("row", ONE, ONE)])
        self.check({"a": LINE}, 1, let("a", ("each", X, "x", LINE_E, None)), inputs=(("w", WORD),), values=["a"])

    def test_e_is_worked_out_only_where_c_is_true(self):
        many = ("each", ("each", Y, "y", LINE_E, None), "x", LINE_E, ("before", P, X))
        self.check({"a": made((), [LINE])}, 3 + 5, let("a", many), inputs=(("p", POINT),), values=[ZERO])
        self.check({"a": EMPTY}, 3, let("a", ("each", ("each", Y, "y", LINE_E, None), "x", LINE_E, ("and", ("before", P, X), ("before", X, P)))),
                   inputs=(("p", POINT),), values=[ZERO])

    def test_calls(self):
        functions = (("above", (("p", POINT),), ("each", X, "x", LINE_E, ("before", P, X))),
                     ("twice", (("s", POINTS), ("p", POINT)), ("join", S, ("call", "above", (P,)))))
        # Each call of above goes over five orbits, as 0 and 1 are held.
        self.check({"a": OVER, "b": ABOVE}, 3 * 5, let("a", ("call", "above", (point(1),))),
                   let("b", ("call", "twice", (("call", "above", (point(1),)), point(0)))), functions=functions)

    def test_in_a_function_its_own_names_are_held_and_all_written_points(self):
        functions = (("f", (("p", POINT),), ("each", X, "x", LINE_E, None)),)
        two, values, call = (("p", POINT), ("q", POINT)), [ZERO, ONE], let("a", ("call", "f", (P,)))
        self.check({"a": LINE}, 3, call, inputs=two, values=values, functions=functions)
        self.check({"a": LINE}, 5, call, let("b", point(7)), inputs=two, values=values, functions=functions)
        with_point = (("f", (("p", POINT),), ("each", X, "x", LINE_E, ("same", X, point(9)))), ("g", (), ("each", X, "x", LINE_E, None)))
        self.assertEqual(run_count(program(let("a", ("call", "g", ())), functions=with_point), []), 3)

    def test_calls_of_the_same_values_begin_their_runs_each_time(self):
        functions = (("f", (("s", POINTS),), ("each", X, "x", S, None)),)
        three = [let(name, ("call", "f", (LINE_E,))) for name in ("a", "b", "c")]
        self.check({"a": LINE, "b": LINE, "c": LINE}, 3, *three, functions=functions)
        self.check({"a": ABOVE, "b": LINE, "c": ABOVE}, 3, let("a", ("call", "f", (S,))), let("b", ("call", "f", (LINE_E,))),
                   let("c", ("call", "f", (S,))), functions=functions, inputs=(("s", POINTS),), values=[ABOVE])

    def functions_in_a_row(self, many, first, step):
        """So many functions of one point: the first one, and each other one made of the one ahead of it."""
        letters = "abcdefghijklmnopqrstuvwxyz"
        names = ["f" + letters[k // 26] + letters[k % 26] for k in range(many)]
        functions = [(names[0], (("p", POINT),), first)]
        for k in range(1, many):
            functions.append((names[k], (("p", POINT),), step(("call", names[k - 1], (P,)))))
        return functions, names[-1]

    def test_long_rows_of_functions(self):
        above = ("each", X, "x", LINE_E, ("before", P, X))
        for many, step in ((350, lambda call: call), (180, lambda call: ("join", call, ("set", POINT, ()))), (150, lambda call: ("each", Y, "y", call, None))):
            functions, last = self.functions_in_a_row(many, above, step)
            made_of = program(let("a", ("call", last, (P,))), let("b", ("call", last, (("item", 0, ("name", "q")),))),
                              inputs=(("p", POINT), ("q", ("row", POINT))), functions=tuple(functions))
            told = run(made_of, [ZERO, ("row", ONE)])
            self.assertEqual([told["a"], told["b"]], [ABOVE, OVER])
            # The first function goes over three orbits, each other one that has a loop over one.
            self.assertEqual(run_count(made_of, [ZERO, ("row", ONE)]), 2 * (3 + (many - 1) * (many == 150)))

    def test_long_rows_of_functions_in_loops(self):
        above = ("each", X, "x", LINE_E, ("before", P, X))
        counts = []
        for many in (5, 150):
            functions, last = self.functions_in_a_row(many, above, lambda call: ("join", call, call))
            functions.append(("many", (("s", POINTS),), ("each", ("call", last, (Z,)), "z", S, None)))
            made_of = program(let("a", ("call", "many", (LINE_E,))), let("b", ("each", ("call", last, (Z,)), "z", S, None)), inputs=(("s", POINTS),), functions=tuple(functions))
            told = run(made_of, [ABOVE], runs=2 ** 160)
            self.assertEqual([told["a"], told["b"]], [made((), [ABOVE]), made((ZERO,), [OVER])])
            counts.append(run_count(made_of, [ABOVE]))
            with self.assertRaises(TooMany):
                run(made_of, [ABOVE], runs=counts[-1] - 1)
        self.assertEqual(counts, [2 + 2 * 3 * 2 ** 4, 2 + 2 * 3 * 2 ** 149])

    def test_calls_within_one_another_twice_as_many_each_time(self):
        functions, last = self.functions_in_a_row(180, ("each", X, "x", LINE_E, None), lambda call: ("join", call, call))
        made_of = program(let("a", ("call", last, (P,))), inputs=(("p", POINT),), functions=tuple(functions))
        self.assertEqual(run(made_of, [ZERO], runs=3 * 2 ** 179)["a"], LINE)
        self.assertEqual(run_count(made_of, [ZERO]), 3 * 2 ** 179)
        with self.assertRaises(TooMany):
            run(made_of, [ZERO], runs=3 * 2 ** 179 - 1)


class Conditions(Runs):
    def holds(self, condition, inputs=(), values=()):
        told = run(Program(inputs, (), (empty("r", WORD), ("if", condition, (add(("word", "yes")),), (add(("word", "no")),)))), list(values))
        return told["r"] == made((), ["yes"])

    def test_before_same_in_within(self):
        inputs, values = (("p", POINT), ("s", POINTS), ("t", POINTS), ("q", PAIR), ("ss", SETS)), [ONE, ABOVE, OVER, ("row", ZERO, ONE), made((), [OVER])]
        q, ss = ("name", "q"), ("name", "ss")
        for condition, told in ((("before", point(0), P), True), (("before", P, point(0)), False), (("before", P, P), False), (("before", point(1, 3), point(1, 2)), True),
                                (("same", P, point(1)), True), (("same", P, point(0)), False), (("same", S, S), True), (("same", S, T), False), (("same", ("join", S, T), S), True),
                                (("same", q, row(point(0), P)), True), (("same", q, row(P, P)), False), (("same", ("word", "a"), ("word", "a")), True), (FALSE, False),
                                (("same", LINE_E, ("all", ss)), True), (("in", P, S), True), (("in", P, T), False), (("in", S, ss), True), (("in", LINE_E, ss), False),
                                (("in", q, ("pairs", LINE_E, LINE_E)), True), (("in", q, ("pairs", T, T)), False), (("within", T, S), True), (("within", S, T), False),
                                (("within", S, S), True), (("within", ("set", POINT, ()), T), True), (("within", LINE_E, S), False)):
            self.assertEqual(self.holds(condition, inputs, values), told, condition)

    def test_not_and_or(self):
        for condition, told in ((("not", TRUE), False), (("not", FALSE), True), (("and", TRUE, TRUE), True), (("and", TRUE, FALSE), False), (("and", FALSE, TRUE), False),
                                (("or", FALSE, FALSE), False), (("or", TRUE, FALSE), True), (("or", FALSE, TRUE), True), (("not", ("not", TRUE)), True)):
            self.assertEqual(self.holds(condition), told, condition)

    def test_the_second_one_only_if_the_first_does_not_decide(self):
        some = ("some", "x", LINE_E, TRUE)
        for condition, runs in ((("and", FALSE, some), 0), (("and", TRUE, some), 1), (("or", TRUE, some), 0), (("or", FALSE, some), 1), (("and", some, some), 2)):
            self.check({}, runs, when(condition))

    def test_some_and_every(self):
        inputs, values = (("s", POINTS), ("e", POINTS)), [ABOVE, EMPTY]
        for condition, told in ((("some", "x", S, TRUE), True), (("some", "x", S, FALSE), False), (("some", "x", ("name", "e"), TRUE), False), (("every", "x", ("name", "e"), FALSE), True),
                                (("every", "x", S, TRUE), True), (("every", "x", S, FALSE), False), (("some", "x", LINE_E, ("in", X, S)), True), (("every", "x", LINE_E, ("in", X, S)), False),
                                (("every", "x", S, ("before", point(0), X)), True), (("every", "x", LINE_E, ("some", "y", LINE_E, ("before", X, Y))), True),
                                (("some", "x", LINE_E, ("every", "y", LINE_E, ("before", X, Y))), False)):
            self.assertEqual(self.holds(condition, inputs, values), told, condition)

    def test_some_ends_with_the_first_run_that_is_true(self):
        # Over 0 and 1 the line's values are -1, 0, 1, 1/2, 2, in this order.
        below, over = ("before", X, point(0)), ("before", point(1), X)
        for condition, runs in ((TRUE, 1), (below, 1), (("same", X, point(0)), 2), (("same", X, point(1)), 3), (("and", ("before", point(0), X), ("before", X, point(1))), 4), (over, 5), (FALSE, 5)):
            self.check({}, runs, let("a", point(0)), let("b", point(1)), when(("some", "x", LINE_E, condition)))
            self.check({}, runs, let("a", point(0)), let("b", point(1)), when(("every", "x", LINE_E, ("not", condition))))

    def test_all_other_parts_are_worked_out(self):
        one = ("each", X, "x", LINE_E, None)
        self.check({}, 2, when(("same", one, one)))
        self.check({}, 2, when(("within", one, one)))
        self.check({}, 2, let("a", ("join", one, one)))
        self.check({"a": EMPTY}, 2, let("a", ("pairs", ("both", one, ("set", POINT, ())), one)))


class Statements(Runs):
    def test_let_and_the_order_of_names(self):
        told = run(program(let("b", P), let("a", ("name", "b")), inputs=(("z", WORD), ("p", POINT))), ["w", ONE])
        self.assertEqual(list(told.items()), [("z", "w"), ("p", ONE), ("b", ONE), ("a", ONE)])
        self.assertEqual(run(program(), []), {})

    def test_names_that_blocks_bind_end_with_them(self):
        self.check({"r": ("set", (), ("a",))}, 0, empty("r", WORD), when(TRUE, let("a", ("word", "a")), add(("name", "a"))), when(TRUE, let("a", ("word", "a"))))
        told = run(program(loop("x", let("a", X)), when(TRUE, let("b", LINE_E)), empty("r", POINT), ("grow", "r", LINE_E, (let("c", LINE_E),))), [])
        self.assertEqual(list(told), ["r"])

    def test_if(self):
        self.check({"r": ("set", (), ("a",))}, 0, empty("r", WORD), ("if", TRUE, (add(("word", "a")),), (add(("word", "b")),)))
        self.check({"r": ("set", (), ("b",))}, 0, empty("r", WORD), ("if", FALSE, (add(("word", "a")),), (add(("word", "b")),)))

    def test_add(self):
        self.check({"r": made((ZERO, ONE), [ZERO, ONE])}, 0, empty("r", POINT), add(point(1)), add(point(0)), add(point(1)))
        self.check({"s": ("set", (ZERO,), (ZERO, ONE)), "a": ABOVE}, 0, let("a", S), add(point(0), "s"), inputs=(("s", POINTS),), values=[ABOVE])
        self.check({"s": ABOVE}, 0, add(point(3), "s"), inputs=(("s", POINTS),), values=[ABOVE])
        self.check({"s": LINE}, 0, add(point(0), "s"), inputs=(("s", POINTS),), values=[made((ZERO,), [(-1, 1), ONE])])
        self.check({"r": made((), [LINE, EMPTY])}, 0, empty("r", POINTS), add(LINE_E), add(("set", POINT, ())))
        self.check({"s": made((ONE,), [ZERO, TWO])}, 0, add(point(0), "s"), inputs=(("s", POINTS),), values=[made((ZERO, ONE), [(-1, 1), HALF, TWO])])

    def test_for_over_the_line(self):
        self.check({"r": LINE}, 1, empty("r", POINT), loop("x", add(X)))
        self.check({"r": RISING}, 4, empty("r", PAIR), loop("x", loop("y", when(("before", X, Y), add(row(X, Y))))))
        self.check({"r": ("set", (), (("row", ZERO, ZERO), ("row", ZERO, ONE), ("row", ONE, ZERO)))}, 4, empty("r", PAIR), loop("x", loop("y", add(row(X, Y)))))
        self.check({"r": made((ZERO,), [ONE, (-1, 1)])}, 3, empty("r", POINT), loop("x", when(("not", ("same", X, point(0))), add(X))))
        self.check({"r": made((), [("row", *[(k, 1) for k in order]) for order in ((0, 1, 2), (0, 2, 1), (1, 0, 2), (1, 2, 0), (2, 0, 1), (2, 1, 0))])}, 17,
                   empty("r", ("row", POINT, POINT, POINT)),
                   loop("x", loop("y", loop("z", when(("not", ("or", ("same", X, Y), ("or", ("same", X, Z), ("same", Y, Z)))), add(row(X, Y, Z)))))))

    def test_for_over_sets_handed_in(self):
        inputs, values = (("s", PAIRS), ("ss", SETS)), [RISING, made((), [ABOVE])]
        self.check({"r": LINE}, 1, empty("r", POINT), loop("x", add(("item", 0, X)), over=S), inputs=inputs, values=values)
        self.check({"r": ("set", (), (("row", ONE, ZERO),))}, 1, empty("r", PAIR), loop("x", add(row(("item", 1, X), ("item", 0, X))), over=S), inputs=inputs, values=values)
        self.check({"r": LINE}, 2, empty("r", POINT), loop("x", loop("y", add(Y), over=X), over=("name", "ss")), inputs=inputs, values=values)
        self.check({"r": LINE}, 1 + 3, empty("r", POINT), loop("x", loop("y", when(("not", ("in", Y, X)), add(Y))), over=("name", "ss")), inputs=inputs, values=values)
        self.check({"r": EMPTY}, 0, empty("r", POINT), loop("x", add(X), over=R))

    def test_over_sets_with_points_and_held_points(self):
        self.check({"r": ABOVE}, 1, empty("r", POINT), loop("x", add(X), over=S), inputs=(("s", POINTS),), values=[ABOVE])
        self.check({"r": ABOVE}, 3, empty("r", POINT), loop("x", add(X), over=S), inputs=(("s", POINTS), ("p", POINT)), values=[ABOVE, ONE])
        self.check({"r": ABOVE}, 3, empty("r", POINT), loop("x", add(X), over=S), let("q", point(5)), inputs=(("s", POINTS),), values=[ABOVE])
        self.check({}, 5, loop("x"), inputs=(("q", ("row", POINT, WORD, POINT)),), values=[("row", ONE, "a", ZERO)])
        self.check({}, 3 + 5 + 3 + 5, loop("x", loop("y")), inputs=(("p", POINT),), values=[ZERO])

    def test_names_added_to_are_held_too(self):
        self.check({"r": made((), [("row", ZERO, ZERO), ("row", ZERO, ONE), ("row", ONE, ZERO)])}, 1 + 3, empty("r", PAIR), empty("t", POINT),
                   loop("x", add(X, "t"), loop("y", add(row(X, Y)))))
        self.check({"t": LINE}, 1 + 3, empty("t", POINT), loop("x", loop("y", add(Y, "t"))))

    def test_runs_see_what_they_add_and_nothing_of_others(self):
        self.check({"r": LINE, "t": EMPTY}, 3, empty("r", POINT), empty("t", POINT),
                   loop("x", when(("in", point(0), R), add(X, "t")), add(X)))
        self.check({"t": LINE}, 1, empty("r", POINT), empty("t", POINT), loop("x", add(X), when(("in", X, R), add(X, "t"))))
        self.check({"t": LINE}, 1 + 3, empty("r", POINT), empty("t", POINT), loop("x", loop("y", add(Y)), when(("same", R, LINE_E), add(X, "t"))))
        self.check({"r": ("set", (), ("b",))}, 1, empty("r", WORD), loop("x", ("if", ("in", ("word", "b"), R), (add(("word", "c")),), (add(("word", "b")),))))

    def test_names_without_sets_never_change(self):
        self.check({"p": ONE, "w": "a"}, 3, loop("x", let("q", X)), inputs=(("p", POINT), ("w", WORD)), values=[ONE, "a"])

    def test_a_loop_s_name_may_be_added_to(self):
        told = run(program(empty("r", POINTS), loop("x", add(point(9), "x"), add(X), over=("name", "ss")), inputs=(("ss", SETS),)), [made((), [made((ZERO,), [ZERO])])])
        self.assertEqual(told["ss"], made((), [made((ZERO,), [ZERO])]))
        nine = (9, 1)
        self.assertEqual(told["r"], made((nine,), [made((nine,), [nine]), made((ZERO, nine), [ZERO, nine]), made((nine, (10, 1)), [nine, (10, 1)])]))

    def test_an_input_may_be_added_to(self):
        self.check({"s": LINE}, 3, loop("x", add(X, "s")), inputs=(("s", POINTS),), values=[ABOVE])
        self.check({"s": made((ZERO,), [ZERO, ONE])}, 3, loop("x", when(("not", ("before", X, point(0))), add(X, "s"))), inputs=(("s", POINTS),), values=[ABOVE])

    def test_for_keeps_what_was_there(self):
        self.check({"r": made((ZERO,), [ZERO])}, 3, empty("r", POINT), add(point(0)), loop("x", when(FALSE, add(X))))
        self.check({"r": made((ZERO, ONE), [ZERO, TWO])}, 5, empty("r", POINT), add(point(0)), loop("x", when(("before", point(1), X), add(X))))

    def test_lets_in_loops(self):
        self.check({"r": RISING}, 1 + 3 + 1, empty("r", PAIR), loop("x", let("t", ("each", Y, "y", LINE_E, ("before", X, Y))), loop("y", add(row(X, Y)), over=T)))

    def test_with_the_inputs_led_as_well_it_tells_what_it_told_led(self):
        made_of = program(empty("r", PAIR), loop("x", loop("y", when(("and", ("before", X, Y), ("in", Y, S)), add(row(X, Y))), when(("in", X, S), add(row(X, X))))),
                          inputs=(("s", POINTS),))
        move = ((ZERO, (5, 1)), (ONE, (7, 1)))
        many = made((ZERO, ONE), [HALF, ONE])
        told = run(made_of, [many])["r"]
        self.assertEqual(run(made_of, [moved(many, move)])["r"], moved(told, move))
        self.assertEqual(told[1], (ZERO, ONE))


class Grow(Runs):
    def test_the_reached_ones(self):
        web = made(tuple((k, 1) for k in range(4)), [("row", (k, 1), (k + 1, 1)) for k in range(3)])
        step = loop("x", when(("in", ("item", 0, X), R), add(("item", 1, X))), over=("name", "web"))
        told = run(program(empty("r", POINT), add(P), ("grow", "r", LINE_E, (step,)), inputs=(("web", PAIRS), ("p", POINT))), [web, ONE])
        self.assertEqual(told["r"], made((ONE, TWO, THREE), [ONE, TWO, THREE]))
        # Times: 2 comes, 3 comes, none comes; each has a run for each tie.
        self.check({"r": told["r"]}, 3 * 3, empty("r", POINT), add(P), ("grow", "r", LINE_E, (step,)), inputs=(("web", PAIRS), ("p", POINT)), values=[web, ONE])

    def test_only_members_of_within_stay(self):
        self.check({"r": made((ONE, TWO), [ONE, TWO])}, 0, empty("r", POINT), ("grow", "r", S, (add(point(0)), add(point(1)), add(point(2)))), inputs=(("s", POINTS),), values=[ABOVE])
        self.check({"r": made((ZERO, ONE), [ZERO, ONE])}, 0, empty("r", POINT), add(point(0)), ("grow", "r", S, (add(point(1)), add(point(-1)))), inputs=(("s", POINTS),), values=[ABOVE])
        self.check({"r": ABOVE}, 2 * 3, empty("r", POINT), ("grow", "r", S, (loop("x", add(X)),)), inputs=(("s", POINTS),), values=[ABOVE])
        self.check({"r": EMPTY}, 1, empty("r", POINT), ("grow", "r", ("set", POINT, ()), (loop("x", add(X)),)))

    def test_within_is_worked_out_once(self):
        self.check({"r": LINE}, 1 + 2, empty("r", POINT), ("grow", "r", ("each", X, "x", LINE_E, None), (loop("y", add(Y)),)))
        self.check({"r": made((ZERO,), [ZERO]), "s": made((ZERO, ONE), [ZERO, ONE])}, 0, empty("r", POINT),
                   ("grow", "r", S, (add(point(0)), add(point(1)), add(point(1), "s"))), inputs=(("s", POINTS),), values=[made((ZERO,), [ZERO])])

    def test_what_a_time_adds_beside_within_is_seen_in_it_alone(self):
        self.check({"r": made((ONE,), [ONE]), "t": ("set", (), ("ah",))}, 0, empty("r", POINT), empty("t", WORD),
                   ("grow", "r", S, (when(("in", point(0), R), add(("word", "no"), "t")), add(point(0)), when(("in", point(0), R), add(("word", "ah"), "t"), add(point(1))))),
                   inputs=(("s", POINTS),), values=[ABOVE])

    def test_other_names_keep_what_the_times_have_added(self):
        self.check({"r": made((ZERO, ONE), [ZERO, ONE]), "t": made((), ["a", "b", "c"])}, 0, empty("r", POINT), empty("t", WORD),
                   ("grow", "r", LINE_E, (when(("in", point(1), R), add(("word", "c"), "t")), ("if", ("in", point(0), R), (add(point(1)), add(("word", "b"), "t")), (add(point(0)), add(("word", "a"), "t"))))))

    def test_the_last_time_is_the_first_one_that_changes_nothing(self):
        # Another name changes at the second time, and the set would grow at a third one: there is none.
        self.check({"r": made((ZERO,), [ZERO]), "t": made((), ["a", "b"])}, 0, empty("r", POINT), empty("t", WORD),
                   ("grow", "r", LINE_E, (when(("in", ("word", "b"), T), add(point(1))), when(("in", ("word", "a"), T), add(("word", "b"), "t")), add(("word", "a"), "t"), add(point(0)))))
        self.check({"r": EMPTY, "t": made((), ["a"])}, 0, empty("r", POINT), empty("t", WORD),
                   ("grow", "r", LINE_E, (when(("in", ("word", "a"), T), add(point(1))), add(("word", "a"), "t"))))

    def test_grow_in_a_loop(self):
        next_ones = loop("y", when(("in", ("item", 0, Y), T), add(("item", 1, Y), "t")), over=("name", "web"))
        made_of = program(empty("r", PAIR), loop("x", empty("t", POINT), add(X, "t"), ("grow", "t", LINE_E, (next_ones,)), loop("z", add(row(X, Z)), over=T)),
                          inputs=(("web", PAIRS),))
        told = run(made_of, [RISING])["r"]
        self.assertEqual(told, made((), [("row", ZERO, ONE), ("row", ZERO, ZERO)]))
        outer = program(empty("r", POINT), loop("x", ("grow", "r", S, (add(X),))), inputs=(("s", POINTS),))
        self.assertEqual(run(outer, [ABOVE])["r"], ABOVE)


class Caps(Runs):
    def test_runs_count_in_all(self):
        three = [loop("x", loop("y")), let("a", ("each", X, "x", LINE_E, None)), when(("some", "x", LINE_E, TRUE)), when(("every", "x", LINE_E, FALSE))]
        self.check({}, 4 + 1 + 1 + 1, *three)
        nested = program(loop("x", loop("y", loop("z", loop("u")))))
        self.assertEqual(run_count(nested, []), 1 + 3 + 13 + 75)

    def test_three_thousand_runs_if_none_are_told(self):
        # 1, 3, 13, 75, 541 and 4683 runs, one loop in another.
        five = loop("a", loop("b", loop("c", loop("d", loop("e")))))
        self.assertEqual(run_count(program(five), []), 633)
        self.check({}, 633, five)
        six = program(loop("a", loop("b", loop("c", loop("d", loop("e", loop("f")))))))
        with self.assertRaises(TooMany):
            run(six, [])
        self.assertEqual([run(six, [], runs=5316), run_count(six, [])], [{}, 5316])
        with self.assertRaises(TooMany):
            run(six, [], runs=5315)
        thousand = word_set(500)
        made_of = program(*[loop("x", over=S) for _ in range(6)], inputs=(("s", WORDS),))
        self.assertEqual(run(made_of, [thousand]), {"s": thousand})
        with self.assertRaises(TooMany):
            run(program(*[loop("x", over=S) for _ in range(6)], loop("y"), inputs=(("s", WORDS),)), [thousand])

    def test_six_hundred_members_if_none_are_told(self):
        whole, more = word_set(600), word_set(601)
        self.assertEqual(run(program(let("a", S), inputs=(("s", WORDS),)), [whole])["a"], whole)
        with self.assertRaises(TooMany):
            run(program(let("a", S), inputs=(("s", WORDS),)), [more])
        self.assertEqual(run(program(inputs=(("s", WORDS),)), [more]), {"s": more})
        self.assertEqual(run(program(let("a", S), inputs=(("s", WORDS),)), [more], members=601)["a"], more)

    def test_members_of_an_expression(self):
        inputs, values = (("s", WORDS), ("t", WORDS)), [word_set(5), made((), words(9)[5:])]
        self.check_members(5, program(let("a", S), inputs=inputs), values)
        self.check_members(4, program(let("a", T), inputs=inputs), values)
        self.check_members(9, program(let("a", ("join", S, T)), inputs=inputs), values)
        self.check_members(20, program(let("a", ("pairs", S, T)), inputs=inputs), values)
        self.check_members(5, program(let("a", ("less", T, S)), inputs=inputs), values)
        self.check_members(5, program(when(("same", S, T)), inputs=inputs), values)
        self.check_members(3, program(let("a", ("set", WORD, tuple(("word", w) for w in "abcb")))))
        self.check_members(5, program(let("a", ("each", X, "x", S, None)), inputs=inputs), values)
        self.check_members(1, program(let("a", LINE_E)))
        self.check_members(3, program(let("a", ("pairs", LINE_E, LINE_E))))
        self.check_members(2, program(let("a", ("item", 0, ("name", "q"))), inputs=(("q", ("row", WORDS)),)), [("row", word_set(2))])
        self.check_members(1, program(let("a", ("name", "q")), inputs=(("q", ("row", WORDS)),)), [("row", word_set(2))])

    def test_told_members_of_its_own(self):
        self.check_members(1, program(let("a", S), inputs=(("s", ("set", WORDS)),)), [made((), [word_set(7)])])

    def test_names_that_are_not_asked_for(self):
        self.check_members(1, program(let("a", LINE_E), inputs=(("s", WORDS),)), [word_set(7)])
        self.check_members(1, program(loop("x"), inputs=(("s", WORDS),)), [word_set(7)])
        self.check_members(1, program(loop("x", when(FALSE, add(("word", "a"), "s"))), inputs=(("s", WORDS),)), [word_set(7)])

    def test_members_of_an_add(self):
        self.check_members(2, program(empty("r", WORD), add(("word", "a")), add(("word", "b")), add(("word", "a"))))
        self.check_members(7, program(add(("word", "aaa"), "s"), inputs=(("s", WORDS),)), [word_set(7)])
        self.check_members(8, program(add(("word", "zz"), "s"), inputs=(("s", WORDS),)), [word_set(7)])
        # Beside 0 and 1 the rows have thirteen orbits.
        self.check_members(14, program(add(row(point(1), point(0)), "s"), inputs=(("s", PAIRS),)), [RISING])
        self.check_members(1, program(add(row(point(0), point(1)), "s"), inputs=(("s", PAIRS),)), [RISING])
        self.check_members(1, program(add(point(0), "s"), inputs=(("s", POINTS),)), [made((ZERO,), [(-1, 1), ONE])])

    def test_members_within_a_run(self):
        self.check_members(3, program(empty("r", WORD), loop("x", add(("word", "a")), add(("word", "b")), add(("word", "c")))))
        # In each run of the inner loop r has one point more.
        # In a run of the inner loop r has two points: one member for each.
        self.check_members(2, program(empty("r", POINT), loop("x", add(X), loop("y", when(("before", X, Y), add(Y))))))
        self.check_members(3, program(add(("word", "aaa"), "s"), loop("x", add(X, "t")), inputs=(("s", WORDS), ("t", POINTS))), [word_set(3), EMPTY])

    def test_members_of_a_for(self):
        # Each run leaves two words; the runs together leave four.
        four = made((), [("row", a, b) for a in "ab" for b in "cd"])
        made_of = program(empty("r", WORD), loop("x", add(("item", 0, X)), over=S), inputs=(("s", ("set", ("row", WORD, WORD))),))
        self.check_members(4, made_of, [four])
        many = program(empty("r", PAIR), loop("x", loop("y", when(("not", ("same", X, Y)), add(row(X, Y))))))
        self.check_members(2, many)
        words_of = program(empty("r", WORD), loop("x", add(X), over=("item", 0, ("name", "q"))), inputs=(("q", ("row", WORDS)),))
        self.check_members(6, words_of, [("row", word_set(6))])

    def test_a_for_that_gives_more_than_its_runs_have(self):
        functions = (("f", (("s", POINTS), ("p", POINT)), ("each", X, "x", S, ("before", P, X))),)
        made_of = program(empty("r", ("row", WORD, WORD)), loop("x", loop("y", add(row(X, Y)), over=S), over=S), inputs=(("s", WORDS),), functions=functions)
        self.check_members(9, made_of, [word_set(3)])

    def test_members_of_a_time_of_grow(self):
        self.check_members(7, program(("grow", "s", ("set", WORD, ()), ()), inputs=(("s", WORDS),)), [word_set(7)])
        self.check_members(3, program(empty("r", WORD), ("grow", "r", S, (add(("word", "aaa")), add(("word", "aab")), add(("word", "zzz")))), inputs=(("s", WORDS),)), [word_set(2)])

    def test_too_many_orbits(self):
        inputs = (("s", WORDS), ("t", WORDS))
        big, rest = word_set(400), made((), words(800)[400:])
        for word in ("join", "pairs"):
            with self.assertRaises(TooMany):
                run(program(let("a", (word, S, T)), inputs=inputs), [big, rest], members=10 ** 6)
        for word in ("both", "less"):
            with self.assertRaises(TooMany):
                run(program(let("a", (word, S, S if word == "both" else ("set", WORD, ()))), inputs=inputs), [word_set(601), rest], members=10 ** 6)
        with self.assertRaises(TooMany):
            run(program(let("a", ("all", ("set", WORDS, (S, T)))), inputs=inputs), [big, rest], members=10 ** 6)
        four = tuple((k, 1) for k in range(4))
        rows = made((), [("row", *[(k, 1) for k in order]) for order in ((0, 1, 2, 3), (3, 2, 1, 0))])
        quad = ("row", POINT, POINT, POINT, POINT)
        with self.assertRaises(TooMany):
            run(program(let("a", ("join", S, T)), inputs=(("s", ("set", quad)), ("t", ("set", quad)))), [rows, made(four, [("row", *four)])])

    def test_adds_fors_grows_and_eaches_raise_by_told_members_alone(self):
        four = tuple((k, 1) for k in range(4))
        quad = ("row", POINT, POINT, POINT, POINT)
        rows = made((), [("row", *[(k, 1) for k in order]) for order in ((0, 1, 2, 3), (3, 2, 1, 0))])
        inputs = (("s", ("set", quad)), ("t", ("set", quad)))
        corner = made(four, [("row", *four)])
        told = run(program(loop("x", add(X, "s"), over=T), inputs=inputs), [rows, corner])
        self.assertEqual(told["s"], rows)
        told = run(program(("grow", "s", T, (loop("x", add(X, "s"), over=T),)), inputs=inputs), [rows, corner])
        self.assertEqual(told["s"], rows)
        told = run(program(let("a", ("each", X, "x", S, None)), inputs=inputs), [rows, corner])
        self.assertEqual(told["a"], rows)
        self.assertEqual(run_count(program(let("a", ("each", X, "x", S, None)), inputs=inputs), [rows, corner]), 642)

    def test_caps_are_passed_by_keyword(self):
        made_of = program(loop("x"))
        with self.assertRaises(TypeError):
            run(made_of, [], 3)
        self.assertEqual(run(made_of, [], members=1, runs=1), {})

    def test_too_many_is_no_lasting_harm(self):
        made_of = program(empty("r", POINT), loop("x", add(X)), loop("y", loop("z")))
        for _ in range(2):
            with self.assertRaises(TooMany):
                run(made_of, [], runs=2)
            self.assertEqual(run(made_of, [])["r"], LINE)

    def test_the_greatest_of_what_callers_may_pass(self):
        inner = (add(row(("name", "a"), ("name", "b"), ("name", "h")), "r"),)
        for name in reversed("abcdefgh"):
            inner = (("for", name, S, inner),)
        made_of = program(empty("r", ("row", POINT, POINT, POINT)), *inner, inputs=(("s", POINTS),))
        told = run(made_of, [made((ZERO,), [ZERO])])
        self.assertEqual(told["r"], made((ZERO,), [("row", ZERO, ZERO, ZERO)]))
        self.assertEqual(run_count(made_of, [made((ZERO,), [ZERO])]), 8)
        big = made((), [("row", ZERO, word) for word in words(590)])
        made_of = program(loop("x", add(row(("item", 0, X), ("word", "zzz")), "s"), over=S), inputs=(("s", ("set", ("row", POINT, WORD))),))
        self.assertEqual(len(run(made_of, [big], members=2000)["s"][2]), 591)


class Told(unittest.TestCase):
    def setUp(self):
        self.program = program(empty("r", PAIR), loop("x", loop("y", when(("before", X, Y), add(row(X, Y))))), let("a", S), let("b", P),
                               when(TRUE, let("c", LINE_E)), inputs=(("p", POINT), ("s", POINTS)))
        self.values = [ONE, ABOVE]

    def told(self, name, value):
        return is_told(self.program, self.values, name, value)

    def test_members_and_others(self):
        for name, value, expected in (("r", ("row", HALF, (7, 1)), True), ("r", ("row", (7, 1), HALF), False), ("r", ("row", ONE, ONE), False), ("r", ZERO, False), ("a", ONE, True),
                                      ("a", ZERO, False), ("s", (1, 9), True), ("s", "a", False), ("s", ABOVE, False)):
            self.assertIs(self.told(name, value), expected, (name, value))

    def test_names_without_sets(self):
        for name, value in (("p", ONE), ("b", ONE), ("p", "a")):
            self.assertIs(self.told(name, value), False)

    def test_no_values(self):
        for value in (None, True, 1, (2, 2), (True, 1), [1, 1], ["row", ZERO, ONE], ("row", ZERO, [1, 1]), ("row", ZERO, (True, 1)), ("row",), {}, {"r": []}, "", "A", (),
                      ("set", (), (ONE,)), self.program, ("row", ("row", ("row", ("row", ("row", "a")))))):
            for name in ("r", "a", "p"):
                kept = copy_of(value)
                self.assertIs(self.told(name, value), False, value)
                self.assertTrue(is_same_thing(value, kept))

    def test_unknown_names_ahead_of_all_else(self):
        for name in ("q", "x", "y", "c", "", "R", None, 0, True, [], ["r"], ("r",), {}, {"r": [1]}, ZERO, self.program, ("a",)):
            for value in (ONE, None, [1]):
                kept = copy_of(name)
                with self.assertRaises(UnknownName) as caught:
                    self.told(name, value)
                self.assertTrue(is_same_thing(caught.exception.name, kept))
                self.assertIsInstance(caught.exception, NotThere)
                if isinstance(name, (list, dict)):
                    self.assertIsNot(caught.exception.name, name)

    def test_functions_are_no_names(self):
        made_of = program(functions=(("f", (), LINE_E),))
        with self.assertRaises(UnknownName):
            is_told(made_of, [], "f", ZERO)


if __name__ == "__main__":
    unittest.main()
