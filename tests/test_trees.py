import unittest

from gapwise.errors import BadProgram, LineError, MixedKinds, NotThere, TwiceTold, UnknownName
from gapwise.making import EMPTY, LINE, made
from gapwise.trees import Program, is_kind, is_of
from tests.helping import copy_of, is_same_thing

WORD, POINT = ("word",), ("point",)
PAIR = ("row", POINT, POINT)
POINTS, WORDS, PAIRS = ("set", POINT), ("set", WORD), ("set", PAIR)
SETS = ("set", POINTS)
ZERO, ONE, TWO = (0, 1), (1, 1), (2, 1)
ABOVE = ("set", (ZERO,), (ONE,))
A, P, LINE_E = ("word", "a"), ("point", ZERO), ("line",)
NO_POINTS = ("set", POINT, ())
HOLDS = ("same", A, A)


def name(word):
    return ("name", word)


def let(word, expression):
    return ("let", word, expression)


def deep(kind, many):
    """So many sets of sets .. of the kind."""
    for _ in range(many):
        kind = ("set", kind)
    return kind


class Kinds(unittest.TestCase):
    def test_kinds(self):
        for kind in (WORD, POINT, PAIR, POINTS, ("row", WORD), ("row", WORD, POINT, PAIR, POINTS), SETS, ("set", PAIR),
                     deep(POINT, 4), ("row", ("row", ("row", ("row", WORD)))), ("row", POINT, deep(POINT, 3))):
            self.assertIs(is_kind(kind), True, kind)

    def test_deeper_ones(self):
        for kind in (deep(POINT, 5), ("row", deep(WORD, 4)), ("set", ("row", POINT, deep(WORD, 3))), deep(POINT, 20)):
            self.assertIs(is_kind(kind), False, kind)

    def test_any_values(self):
        for value in ((), ("row",), ("row", POINT, POINT, POINT, POINT, POINT), ("set",), ("set", POINT, POINT), ("word", "a"),
                      ("point", ZERO), ("line",), "word", "point", None, True, 0, [], ["point"], {}, ("row", "point"), ("row", ["point"]),
                      ("set", None), ("set", ("point", 1)), (("point",),), (0, 1), LINE, ("set", ("set",)), ("row", POINT, ()), (True,),
                      ("points",), Program((), (), ()), ("abc", POINT), ("line", POINT), ("sets", POINT), ([], POINT), ({}, POINT), (["set"], POINT)):
            self.assertIs(is_kind(value), False, value)

    def test_values_of_kinds(self):
        for value, kind in (("a", WORD), (ZERO, POINT), (("row", ZERO, ONE), PAIR), (("row", "a"), ("row", WORD)), (LINE, POINTS),
                            (EMPTY, POINTS), (EMPTY, WORDS), (EMPTY, deep(PAIR, 3)), (ABOVE, POINTS), (made((), [ABOVE, EMPTY]), SETS),
                            (made((), [("row", ZERO, ONE)]), PAIRS), (("row", LINE, "a"), ("row", POINTS, WORD)),
                            (("row", EMPTY, EMPTY), ("row", SETS, WORDS)), ("word", WORD), ("set", WORD), ("row", WORD)):
            self.assertIs(is_of(value, kind), True, (value, kind))

    def test_values_of_other_kinds(self):
        for value, kind in (("a", POINT), ("a", WORDS), ("a", ("row", WORD)), (ZERO, WORD), (ZERO, PAIR), (ZERO, POINTS), (("row", ZERO, ONE), POINTS),
                            (("row", ZERO, ONE), ("row", POINT)), (("row", ZERO), PAIR), (("row", ZERO), POINTS), (("row", "a"), WORDS), (("row", ZERO, "a"), PAIR), (LINE, WORDS), (LINE, POINT),
                            (LINE, SETS), (EMPTY, POINT), (EMPTY, ("row", POINT)), (made((), [ZERO, "a"]), POINTS), (made((), [ZERO, "a"]), WORDS),
                            (made((), [LINE, made((), ["a"])]), SETS), (("row", LINE, "a"), ("row", WORDS, WORD)), (("row", ZERO, ONE), WORD)):
            self.assertIs(is_of(value, kind), False, (value, kind))


class Checked(unittest.TestCase):
    def bad(self, error, told, *parts):
        kept = copy_of(parts)
        with self.assertRaises(error) as caught:
            Program(*parts)
        self.assertIs(type(caught.exception), error)
        seen = caught.exception.name if error in (TwiceTold, UnknownName) else caught.exception.path
        self.assertEqual(seen, told, parts)
        self.assertTrue(is_same_thing(parts, kept))
        self.assertIsInstance(caught.exception, NotThere if error is UnknownName else LineError)

    def bad_block(self, error, told, *block):
        self.bad(error, told, (), (), block)

    def bad_expression(self, error, path, expression, inputs=()):
        """The path is told from the expression on."""
        self.bad(error, (2, 0, 2, *path), inputs, (), (let("zz", expression),))

    def bad_condition(self, error, path, condition, inputs=()):
        self.bad(error, (2, 0, 1, *path), inputs, (), (("if", condition, (), ()),))


class Forms(Checked):
    def test_inputs(self):
        for inputs in (None, [], "a", 0, {}, True):
            self.bad(BadProgram, (0,), inputs, (), ())
        for pair in (None, ["p", POINT], ("p",), ("p", POINT, 1), (), "ab", ("P", POINT), (1, POINT), ("", POINT), ("abcdefghi", POINT), (None, POINT)):
            self.bad(BadProgram, (0, 1), (("q", POINT), pair), (), ())
        for kind in (None, (), "point", ["point"], ("points",), ("row",), ("set",), ("word", 1), (("point",),)):
            self.bad(BadProgram, (0, 0, 1), (("p", kind),), (), ())

    def test_kinds(self):
        self.bad(BadProgram, (0, 0, 1, 2), (("p", ("row", POINT, ("row",))),), (), ())
        self.bad(BadProgram, (0, 0, 1, 1, 1), (("p", ("set", ("set", None))),), (), ())
        self.bad(BadProgram, (0, 0, 1), (("p", deep(POINT, 5)),), (), ())
        self.bad(BadProgram, (0, 0, 1), (("p", ("row", POINT, deep(POINT, 4))),), (), ())
        self.bad(BadProgram, (0, 0, 1, 1, 1, 1, 1, 1), (("p", deep(("row",), 5)),), (), ())
        self.bad(BadProgram, (0, 0, 1, 2), (("p", ("row", deep(POINT, 4), ())),), (), ())
        Program((("p", deep(POINT, 4)), ("q", ("row", ("row", ("row", PAIR))))), (), ())
        self.bad_expression(BadProgram, (1,), ("set", deep(POINT, 5), ()))
        self.bad_expression(BadProgram, (1, 1), ("set", ("set", "point"), ("x",)))

    def test_functions(self):
        for functions in (None, [], "f", 1):
            self.bad(BadProgram, (1,), (), functions, ())
        for function in (None, [], ("f", ()), ("f", (), A, A), ("F", (), A), (1, (), A), (), "fab"):
            self.bad(BadProgram, (1, 0), (), (function,), ())
        self.bad(BadProgram, (1, 0, 1), (), (("f", None, A),), ())
        self.bad(BadProgram, (1, 0, 1), (), (("f", [], None),), ())
        self.bad(BadProgram, (1, 0, 1, 1), (), (("f", (("p", POINT), ("Q", POINT)), A),), ())
        self.bad(BadProgram, (1, 0, 1, 0, 1), (), (("f", (("p", None),), A),), ())
        self.bad(BadProgram, (1, 1, 2), (), (("f", (), A), ("g", (), None)), ())
        self.bad(BadProgram, (1, 0, 2), (), (("f", (), HOLDS),), ())

    def test_blocks_and_statements(self):
        for block in (None, [], "b", 3):
            self.bad(BadProgram, (2,), (), (), block)
        for statement in (None, [], (), "let", ("let",), ("let", "a"), ("let", "a", A, A), ("let", "A", A), ("let", 1, A), A, HOLDS, (1, 2), (None,),
                          ("add", A), ("add", A, "A"), ("add", A, 1), ("add", A, "r", A), ("for", "x", LINE_E), ("for", "X", LINE_E, ()),
                          ("for", None, LINE_E, ()), ("for", "x", LINE_E, (), ()), ("if", HOLDS, ()), ("if", HOLDS, (), (), ()), ("grow", "r", LINE_E),
                          ("grow", "R", LINE_E, ()), ("grow", "r", LINE_E, (), ()), ["let", "a", A], (("let",), "a", A), ("lets", "a", A), (True, "a", A), (["let"], "a", A), ({}, "a", A)):
            self.bad_block(BadProgram, (2, 1), let("aa", A), statement)

    def test_parts_of_statements(self):
        for statement, path in ((let("a", None), (2,)), (("add", None, "r"), (1,)), (("for", "x", None, None), (2,)), (("for", "x", LINE_E, None), (3,)),
                                (("for", "x", LINE_E, []), (3,)), (("for", "x", LINE_E, (None,)), (3, 0)), (("if", None, None, None), (1,)), (("if", A, (), ()), (1,)),
                                (("if", HOLDS, None, None), (2,)), (("if", HOLDS, (), None), (3,)), (("if", HOLDS, (), (A,)), (3, 0)), (("grow", "r", HOLDS, None), (2,)),
                                (("grow", "r", LINE_E, None), (3,)), (("grow", "r", LINE_E, (let("a", A), let("b", ()))), (3, 1, 2))):
            self.bad_block(BadProgram, (2, 0, *path), statement)

    def test_expressions(self):
        for expression in (None, [], (), "line", ("lines",), ("line", 1), ("word",), ("word", "A"), ("word", 1), ("word", "a", "b"), ("word", ""), ("word", A),
                           ("point",), ("point", 1), ("point", (2, 4)), ("point", (1, 0)), ("point", [0, 1]), ("point", (True, 1)), ("point", (0, True)),
                           ("point", (10 ** 30, 1)), ("point", (-(10 ** 30), 1)), ("point", (1, 10 ** 30)), ("point", ZERO, ZERO), ("name",), ("name", "A"), ("name", 1),
                           ("name", "a", "b"), ("row",), ("row", (A,), A), ("item", 0), ("item", -1, A), ("item", 4, A), ("item", True, A), ("item", False, A),
                           ("item", "a", A), ("item", None, A), ("item", 0, A, A), ("set", POINT), ("set", POINT, (), ()), ("join", A), ("join", A, A, A), ("both", A), ("less", A),
                           ("pairs", A), ("pairs",), ("all",), ("all", A, A), ("each", A, "x", LINE_E), ("each", A, "X", LINE_E, None), ("each", A, 1, LINE_E, None),
                           ("each", A, "x", LINE_E, None, None), ("call", "f"), ("call", "F", ()), ("call", 1, ()), ("call", "f", (), ()), HOLDS, ("not", HOLDS), (0, 1),
                           let("a", A), POINT, ["word", "a"], (None, "a"), ("before", P, P), (["word"], "a"), ({"word": 1}, "a")):
            self.bad_expression(BadProgram, (), expression)

    def test_points_of_thirty_figures(self):
        long = 10 ** 30 - 1
        for point in ((long, 1), (-long, 1), (1, long), (-long, long - 1)):
            Program((), (), (let("a", ("point", point)),))

    def test_parts_of_expressions(self):
        for expression, path in ((("row", ()), (1,)), (("row", (A,) * 5), (1,)), (("row", None), (1,)), (("row", [A]), (1,)), (("row", (A, None)), (1, 1)),
                                 (("row", (None,) * 5), (1,)), (("item", 0, None), (2,)), (("set", None, None), (1,)), (("set", POINT, None), (2,)), (("set", POINT, [A]), (2,)),
                                 (("set", POINT, (P, P, None)), (2, 2)), (("join", None, None), (1,)), (("join", A, None), (2,)), (("both", HOLDS, A), (1,)), (("less", A, ()), (2,)),
                                 (("pairs", A, ("word", 1)), (2,)), (("all", None), (1,)), (("each", None, "x", None, 1), (1,)), (("each", A, "x", None, 1), (3,)),
                                 (("each", A, "x", LINE_E, A), (4,)), (("each", A, "x", LINE_E, ()), (4,)), (("each", A, "x", LINE_E, ("same", A, None)), (4, 2)),
                                 (("call", "f", None), (2,)), (("call", "f", [A]), (2,)), (("call", "f", (A, None)), (2, 1)), (("call", "f", (A, ("row", (A, ("item", 7, A))))), (2, 1, 1, 1))):
            self.bad_expression(BadProgram, path, expression)

    def test_conditions(self):
        for condition in (None, [], (), "same", A, LINE_E, ("same",), ("same", A), ("same", A, A, A), ("before", P), ("in", A), ("within", A, A, A), ("not",), ("not", HOLDS, HOLDS),
                          ("and", HOLDS), ("or", HOLDS), ("or", HOLDS, HOLDS, HOLDS), ("some", "x", LINE_E), ("some", "X", LINE_E, HOLDS), ("some", 1, LINE_E, HOLDS),
                          ("every", "x", LINE_E), ("every", None, LINE_E, HOLDS), ("every", "x", LINE_E, HOLDS, HOLDS), ["same", A, A], ("sames", A, A), (True,), let("a", A), (["same"], A, A), ({}, A)):
            self.bad_condition(BadProgram, (), condition)

    def test_parts_of_conditions(self):
        for condition, path in ((("same", None, None), (1,)), (("same", A, None), (2,)), (("before", P, HOLDS), (2,)), (("in", A, 1), (2,)), (("within", A, ()), (2,)), (("not", None), (1,)),
                                (("not", A), (1,)), (("and", HOLDS, None), (2,)), (("or", A, None), (1,)), (("some", "x", None, None), (2,)), (("some", "x", LINE_E, None), (3,)),
                                (("every", "x", HOLDS, HOLDS), (2,)), (("every", "x", LINE_E, ("not", ("not", A))), (3, 1, 1))):
            self.bad_condition(BadProgram, path, condition)

    def test_the_first_one(self):
        self.bad(BadProgram, (0,), None, None, None)
        self.bad(BadProgram, (1,), (), None, None)
        self.bad(BadProgram, (0, 1), (("p", POINT), None), None, None)
        self.bad(BadProgram, (0, 0, 1), (("p", None), None), None, None)
        self.bad(BadProgram, (1, 0, 1, 0), (), (("f", (None,), None), None), None)
        self.bad_block(BadProgram, (2, 0, 2), let("a", None), None)
        self.bad_block(BadProgram, (2, 0), ("let", "A", None), None)
        self.bad_block(BadProgram, (2, 0, 2, 1), let("a", ("row", (), )), let("b", None))

    def test_a_list_in_the_place_of_a_tuple(self):
        self.bad(BadProgram, (1, 0, 1), (), (("f", [("p", POINT)], A),), ())
        self.bad_block(BadProgram, (2, 0, 3), ("for", "x", LINE_E, [let("a", A)]))


class Twice(Checked):
    def test_inputs_and_params(self):
        self.bad(TwiceTold, "p", (("p", POINT), ("q", POINT), ("p", WORD)), (), ())
        self.bad(TwiceTold, "p", (), (("f", (("p", POINT), ("p", POINT)), A),), ())
        Program((("p", POINT),), (("f", (("p", POINT),), name("p")), ("g", (("p", WORD),), name("p"))), ())

    def test_functions(self):
        self.bad(TwiceTold, "f", (), (("f", (), A), ("g", (), A), ("f", (), P)), ())
        Program((("f", POINT),), (("f", (("f", POINT),), name("f")), ("g", (), A)), (let("g", A),))

    def test_lets(self):
        self.bad_block(TwiceTold, "a", let("a", A), let("a", A))
        self.bad(TwiceTold, "p", (("p", POINT),), (), (let("p", A),))
        self.bad_block(TwiceTold, "a", let("a", A), ("if", HOLDS, (let("a", A),), ()))
        self.bad_block(TwiceTold, "a", let("a", A), ("if", HOLDS, (), (let("a", A),)))
        self.bad_block(TwiceTold, "x", ("for", "x", LINE_E, (let("x", A),)))
        Program((), (), (("if", HOLDS, (let("a", A),), (let("a", P),)), let("a", LINE_E)))
        Program((), (), (("for", "x", LINE_E, (let("a", A),)), ("for", "x", LINE_E, (let("a", P),)), let("x", A), let("a", A)))

    def test_loops(self):
        loop = ("for", "x", LINE_E, ())
        self.bad(TwiceTold, "x", (("x", POINT),), (), (loop,))
        self.bad_block(TwiceTold, "x", let("x", A), loop)
        self.bad_block(TwiceTold, "x", ("for", "x", LINE_E, (loop,)))
        Program((), (), (loop, loop, let("x", A)))
        each = ("each", name("x"), "x", LINE_E, None)
        self.bad_block(TwiceTold, "x", let("x", A), let("b", each))
        self.bad_block(TwiceTold, "x", ("for", "x", LINE_E, (let("b", each),)))
        self.bad_block(TwiceTold, "x", let("b", ("each", each, "x", LINE_E, None)))
        self.bad_block(TwiceTold, "x", let("b", ("each", A, "x", LINE_E, ("same", each, each))))
        Program((), (), (let("b", ("each", name("x"), "x", each, None)),))
        for word in ("some", "every"):
            loop = (word, "x", LINE_E, HOLDS)
            self.bad_block(TwiceTold, "x", let("x", A), ("if", loop, (), ()))
            self.bad_block(TwiceTold, "x", ("if", (word, "x", LINE_E, loop), (), ()))
            Program((), (), (("if", ("and", loop, (word, "x", ("each", A, "y", LINE_E, loop), HOLDS)), (), ()),))
        self.bad(TwiceTold, "p", (), (("f", (("p", POINT),), ("each", A, "p", LINE_E, None)),), ())

    def test_in_its_own_e_a_let_s_name_is_not_bound(self):
        Program((), (), (let("x", ("each", name("x"), "x", LINE_E, None)),))
        Program((), (), (let("x", ("each", name("y"), "y", LINE_E, ("some", "x", LINE_E, ("before", name("x"), name("y"))))),))

    def test_in_its_over_a_loop_s_name_is_not_bound(self):
        each = ("each", name("x"), "x", LINE_E, None)
        Program((), (), (("for", "x", each, ()),))
        Program((), (), (("if", ("some", "x", each, HOLDS), (), ()), ("if", ("every", "x", each, HOLDS), (), ())))
        self.bad_block(TwiceTold, "x", ("for", "x", LINE_E, (("for", "y", each, ()),)))

    def test_a_function_s_names_are_its_own(self):
        Program((("x", POINT),), (("f", (), ("each", name("x"), "x", LINE_E, None)),), ())

    def test_the_first_one(self):
        self.bad(TwiceTold, "p", (("p", POINT), ("p", POINT)), (("f", (("q", POINT), ("q", POINT)), A),), ())
        self.bad(TwiceTold, "f", (), (("f", (), A), ("f", (("q", POINT), ("q", POINT)), A)), (let("a", A), let("a", A)))
        self.bad_block(TwiceTold, "b", let("a", A), let("b", P), ("if", HOLDS, (let("b", A),), (let("a", A),)))
        self.bad_block(TwiceTold, "a", let("a", A), ("for", "a", ("each", A, "a", LINE_E, None), (let("a", A),)))
        inner = ("each", A, "y", LINE_E, None)
        self.bad_block(TwiceTold, "y", let("y", A), let("z", ("each", inner, "z", LINE_E, None)), let("y", A))

    def test_ahead_of_unknown_names_and_kinds(self):
        self.bad_block(TwiceTold, "a", let("a", name("b")), let("a", ("join", A, A)))


class Unknown(Checked):
    def test_names(self):
        self.bad_block(UnknownName, "b", let("a", name("b")))
        self.bad_block(UnknownName, "a", let("a", name("a")))
        self.bad_block(UnknownName, "b", let("a", ("row", (A, name("b"), name("c")))))
        Program((("p", POINT),), (), (let("a", name("p")), let("b", name("a"))))

    def test_names_that_have_ended(self):
        self.bad_block(UnknownName, "b", ("if", HOLDS, (let("b", A),), (let("c", name("b")),)))
        self.bad_block(UnknownName, "b", ("if", HOLDS, (let("b", A),), ()), let("c", name("b")))
        self.bad_block(UnknownName, "x", ("for", "x", LINE_E, ()), let("c", name("x")))
        self.bad_block(UnknownName, "b", let("r", NO_POINTS), ("grow", "r", LINE_E, (let("b", A),)), let("c", name("b")))

    def test_loops_names(self):
        self.bad_block(UnknownName, "x", ("for", "x", ("set", POINT, (name("x"),)), ()))
        self.bad_block(UnknownName, "x", let("a", ("each", name("x"), "x", ("set", POINT, (name("x"),)), None)))
        self.bad_block(UnknownName, "x", ("if", ("some", "x", ("set", POINT, (name("x"),)), HOLDS), (), ()))
        Program((), (), (("for", "x", LINE_E, (let("a", name("x")),)),))
        Program((), (), (("if", ("every", "x", LINE_E, ("same", name("x"), name("x"))), (), ()),))

    def test_functions_know_no_other_names(self):
        self.bad(UnknownName, "p", (("p", POINT),), (("f", (), name("p")),), ())
        self.bad(UnknownName, "q", (), (("f", (("q", POINT),), name("q")), ("g", (("r", POINT),), name("q"))), ())

    def test_add_and_grow(self):
        self.bad_block(UnknownName, "r", ("add", A, "r"))
        self.bad_block(UnknownName, "r", ("add", name("b"), "r"))
        self.bad_block(UnknownName, "r", ("grow", "r", name("b"), (("add", name("c"), "d"),)))
        self.bad_block(UnknownName, "b", let("r", NO_POINTS), ("grow", "r", name("b"), (("add", name("c"), "d"),)))

    def test_calls(self):
        self.bad_block(UnknownName, "f", let("a", ("call", "f", (name("b"),))))
        self.bad(UnknownName, "b", (), (("f", (("p", POINT),), A),), (let("a", ("call", "f", (name("b"),))),))
        self.bad(UnknownName, "f", (), (("f", (), ("call", "f", ())),), ())
        self.bad(UnknownName, "g", (), (("f", (), ("call", "g", ())), ("g", (), A)), ())
        Program((), (("f", (), A), ("g", (), ("call", "f", ()))), (let("a", ("call", "g", ())),))
        self.bad(UnknownName, "f", (), (("f", (), A),), (let("a", name("f")),))
        self.bad(UnknownName, "p", (("p", POINT),), (), (let("a", ("call", "p", ())),))

    def test_the_first_one(self):
        self.bad(UnknownName, "q", (), (("f", (), name("q")),), (let("a", name("b")),))
        self.bad_block(UnknownName, "b", ("if", ("same", name("b"), name("c")), (let("d", name("e")),), ()))
        self.bad_block(UnknownName, "b", let("a", ("each", name("b"), "x", name("c"), ("same", name("d"), A))))
        self.bad_block(UnknownName, "b", let("a", ("join", A, name("b"))), let("c", name("d")))

    def test_ahead_of_kinds(self):
        self.bad_block(UnknownName, "b", let("a", ("join", A, A)), let("c", name("b")))


INPUTS = (("p", POINT), ("w", WORD), ("s", POINTS), ("ws", WORDS), ("r", PAIR), ("rs", PAIRS), ("ss", SETS), ("deep", deep(POINT, 4)),
          ("row", ("row", ("row", ("row", PAIR)))))


class Mixed(Checked):
    def mixed(self, path, expression):
        self.bad_expression(MixedKinds, path, expression, INPUTS)

    def mixed_condition(self, path, condition):
        self.bad_condition(MixedKinds, path, condition, INPUTS)

    def kind(self, expression):
        return Program(INPUTS, (), (let("zz", expression),)).kinds()["zz"]

    def test_kinds_of_expressions(self):
        s, rs, ss, r = name("s"), name("rs"), name("ss"), name("r")
        for expression, kind in ((A, WORD), (P, POINT), (name("w"), WORD), (LINE_E, POINTS), (("row", (A, P, s)), ("row", WORD, POINT, POINTS)), (("item", 1, r), POINT),
                                 (("item", 0, ("row", (A, P))), WORD), (("set", PAIR, (r, ("row", (P, P)))), PAIRS), (("set", WORD, ()), WORDS), (("join", s, LINE_E), POINTS),
                                 (("both", rs, rs), PAIRS), (("less", ss, ss), SETS), (("pairs", s, name("ws")), ("set", ("row", POINT, WORD))), (("all", ss), POINTS),
                                 (("all", name("deep")), deep(POINT, 3)), (("each", ("row", (name("x"), A)), "x", s, None), ("set", ("row", POINT, WORD))),
                                 (("each", ("item", 0, name("x")), "x", rs, ("before", ("item", 0, name("x")), P)), POINTS)):
            self.assertEqual(self.kind(expression), kind)

    def test_rows_and_items(self):
        for place in (2, 3):
            self.mixed((), ("item", place, name("r")))
        self.mixed((), ("item", 0, name("s")))
        self.mixed((), ("item", 0, A))
        self.mixed((), ("item", 0, P))
        self.mixed((1, 1), ("row", (A, ("item", 2, name("r")))))
        self.mixed((), ("row", (A, name("deep"))))
        self.mixed((), ("row", (name("row"),)))
        self.mixed((2,), ("item", 0, ("row", (name("row"),))))

    def test_sets(self):
        self.mixed((), ("set", POINT, (A,)))
        self.mixed((), ("set", POINT, (P, P, A)))
        self.mixed((), ("set", PAIR, (("row", (P, A)),)))
        self.mixed((), ("set", deep(POINT, 4), ()))
        self.mixed((), ("set", deep(POINT, 4), (name("deep"),)))
        self.mixed((2, 1), ("set", POINT, (A, ("item", 3, name("r")))))

    def test_join_both_less(self):
        for word in ("join", "both", "less"):
            self.mixed((), (word, name("s"), name("ws")))
            self.mixed((), (word, name("s"), P))
            self.mixed((), (word, P, P))
            self.mixed((), (word, name("r"), name("r")))
            self.mixed((2,), (word, A, (word, A, A)))
            self.mixed((1,), (word, (word, A, A), (word, A, A)))

    def test_pairs_and_all(self):
        self.mixed((), ("pairs", name("s"), P))
        self.mixed((), ("pairs", A, name("s")))
        self.mixed((), ("pairs", name("deep"), name("s")))
        self.mixed((), ("all", name("s")))
        self.mixed((1,), ("all", ("all", A)))
        self.mixed((1, 2), ("all", ("join", name("ss"), ("all", A))))
        self.mixed((), ("all", name("rs")))
        self.mixed((), ("all", A))
        self.mixed((), ("pairs", name("s"), ("set", deep(POINT, 3), ())))

    def test_each(self):
        self.mixed((), ("each", A, "x", P, None))
        self.mixed((3,), ("each", A, "x", ("all", A), None))
        self.mixed((), ("each", name("deep"), "x", LINE_E, None))
        self.mixed((4,), ("each", A, "x", LINE_E, ("before", name("x"), A)))
        self.mixed((1,), ("each", ("all", A), "x", LINE_E, None))

    def test_each_in_its_sequence_over_c_e(self):
        bad, wrong = ("all", A), ("before", A, A)
        self.mixed((3,), ("each", bad, "x", bad, wrong))
        self.mixed((4,), ("each", bad, "x", LINE_E, wrong))
        self.mixed((1,), ("each", bad, "x", LINE_E, HOLDS))
        self.mixed((), ("each", bad, "x", A, wrong))
        self.mixed((), ("each", bad, "x", name("r"), None))

    def test_calls(self):
        functions = (("f", (("p", POINT), ("w", WORD)), name("w")), ("g", (), LINE_E))
        Program((), functions, (let("a", ("call", "f", (P, A))),))
        for parts in ((), (P,), (P, A, A), (A, P), (P, P)):
            self.bad(MixedKinds, (2, 0, 2), (), functions, (let("a", ("call", "f", parts)),))
        self.bad(MixedKinds, (2, 0, 2), (), functions, (let("a", ("call", "g", (A,))),))
        self.bad(MixedKinds, (2, 0, 2, 2, 1), (), functions, (let("a", ("call", "f", (A, ("all", A)))),))
        self.assertEqual(Program((), functions, (let("a", ("call", "f", (P, A))), let("b", ("call", "g", ())))).kinds(), {"a": WORD, "b": POINTS})

    def test_functions(self):
        self.bad(MixedKinds, (1, 0, 2), (), (("f", (("p", POINT),), ("all", name("p"))),), ())
        self.bad(MixedKinds, (1, 1, 2, 1), (), (("f", (), A), ("g", (), ("join", ("all", A), A))), ())
        self.bad(MixedKinds, (1, 0, 2), (), (("f", (("p", deep(POINT, 4)),), ("row", (name("p"),))),), (let("a", ("all", A)),))

    def test_conditions(self):
        for condition in (("before", P, A), ("before", A, P), ("before", A, A), ("before", name("s"), name("s")), ("same", P, A), ("same", name("s"), name("ws")), ("in", P, name("ws")),
                          ("in", A, A), ("in", name("s"), P), ("in", name("s"), name("s")), ("within", P, P), ("within", name("s"), name("ws")), ("within", name("r"), name("r")),
                          ("within", P, name("s")), ("some", "x", P, HOLDS), ("every", "x", name("r"), HOLDS)):
            self.mixed_condition((), condition)
        for condition in (("before", P, P), ("same", A, A), ("same", name("s"), LINE_E), ("in", P, LINE_E), ("in", name("s"), name("ss")), ("in", name("r"), name("rs")),
                          ("within", name("ss"), name("ss")), ("some", "x", name("rs"), ("same", name("x"), name("r"))), ("every", "x", name("ss"), ("within", name("x"), LINE_E))):
            Program(INPUTS, (), (("if", condition, (), ()),))

    def test_parts_of_conditions(self):
        bad = ("before", A, A)
        for condition, path in ((("not", bad), (1,)), (("and", HOLDS, bad), (2,)), (("and", bad, bad), (1,)), (("or", HOLDS, ("not", bad)), (2, 1)), (("some", "x", LINE_E, bad), (3,)),
                                (("some", "x", ("all", A), bad), (2,)), (("every", "x", A, bad), ()), (("same", ("all", A), ("all", A)), (1,)), (("in", A, ("all", A)), (2,)),
                                (("before", A, ("all", A)), (2,))):
            self.mixed_condition(path, condition)

    def test_statements(self):
        bad = ("all", A)
        for statement, path in ((("add", A, "s"), ()), (("add", P, "p"), ()), (("add", P, "w"), ()), (("add", name("s"), "s"), ()), (("add", bad, "p"), (1,)), (let("a", bad), (2,)),
                                (("for", "x", P, (let("a", bad),)), ()), (("for", "x", bad, ()), (2,)), (("for", "x", LINE_E, (let("a", bad),)), (3, 0, 2)),
                                (("for", "x", name("r"), ()), ()), (("if", ("before", A, A), (let("a", bad),), ()), (1,)), (("if", HOLDS, (let("a", bad),), (let("a", bad),)), (2, 0, 2)),
                                (("if", HOLDS, (), (let("a", bad),)), (3, 0, 2)), (("grow", "s", name("ws"), ()), ()), (("grow", "p", P, ()), ()), (("grow", "p", LINE_E, ()), ()),
                                (("grow", "s", P, (let("a", bad),)), (3, 0, 2)), (("grow", "s", bad, (let("a", bad),)), (2,)), (("grow", "r", name("r"), ()), ())):
            self.bad(MixedKinds, (2, 0, *path), INPUTS, (), (statement,))
        Program(INPUTS, (), (("add", P, "s"), ("add", name("s"), "ss"), ("grow", "s", LINE_E, (("add", P, "s"),)), ("for", "x", name("ss"), (("add", P, "x"),))))

    def test_the_first_one(self):
        bad = ("all", A)
        self.bad(MixedKinds, (1, 0, 2), INPUTS, (("f", (), bad),), (let("a", bad),))
        self.bad(MixedKinds, (2, 0, 2), INPUTS, (("f", (), A),), (let("a", bad), let("b", bad)))
        self.bad(MixedKinds, (2, 0, 2, 1, 0), INPUTS, (), (let("a", ("row", (bad, bad))),))
        self.bad(MixedKinds, (2, 0, 2, 2), INPUTS, (), (let("a", ("join", name("s"), ("join", name("s"), name("ws")))),))


class Programs(unittest.TestCase):
    def test_what_it_was_made_of(self):
        inputs = (("p", POINT), ("s", POINTS))
        functions = (("f", (("q", POINT),), ("row", (name("q"), name("q")))),)
        block = (let("a", ("call", "f", (name("p"),))), ("for", "x", name("s"), (let("b", A),)), let("c", LINE_E), ("if", HOLDS, (let("d", A),), ()))
        program = Program(inputs, functions, block)
        self.assertEqual([program.inputs(), program.functions(), program.block()], [inputs, functions, block])
        self.assertEqual(list(program.kinds().items()), [("p", POINT), ("s", POINTS), ("a", PAIR), ("c", POINTS)])

    def test_the_methods_are_the_class_s_own(self):
        for method in ("inputs", "functions", "block", "kinds", "__eq__"):
            self.assertIn(method, vars(Program))

    def test_kinds_are_new_dicts(self):
        program = Program((("p", POINT),), (), (let("a", A),))
        program.kinds().clear()
        kinds = program.kinds()
        kinds["b"] = WORD
        self.assertEqual(program.kinds(), {"p": POINT, "a": WORD})
        self.assertEqual(Program((), (), ()).kinds(), {})

    def test_equality(self):
        inputs, functions, block = (("p", POINT),), (("f", (), A),), (let("a", A),)
        program = Program(inputs, functions, block)
        self.assertTrue(program == Program((("p", POINT),), (("f", (), A),), (let("a", A),)))
        self.assertFalse(program != Program(inputs, functions, block))
        for other in (Program((), functions, block), Program(inputs, (), block), Program(inputs, functions, ()), Program((("q", POINT),), functions, block)):
            self.assertFalse(program == other)
            self.assertTrue(program != other)
        for other in ((inputs, functions, block), None, 0, "program", [], {}, LINE, (program,)):
            self.assertFalse(program == other)
            self.assertFalse(other == program)


if __name__ == "__main__":
    unittest.main()
