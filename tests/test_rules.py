import unittest

from gapwise.errors import BadRules, BadValue, LineError
from gapwise.making import EMPTY, LINE, made
from gapwise.reading import check_value
from gapwise.rules import check_rules
from gapwise.sizes import Size
from tests.helping import copy_of, is_same_thing, seeded

ZERO, ONE = (0, 1), (1, 1)
NEXT = ("next", ("x", "y"))
FAR = ((("far", ("x", "y")), (NEXT,), ()), (("far", ("x", "z")), (("far", ("x", "y")), ("next", ("y", "z"))), (("unlike", "x", "z"), ("before", "x", ("value", ONE)))))
NO_TERMS = ((), "", "X", "aaaaaaaaa", ZERO, ("value",), ("value", ()), ("value", [0, 1]), ["value", ZERO], ("value", (True, 1)), ("value", ZERO, ZERO), ("word", "a"), (("value",), ZERO), 3, True, None, {"x": 1},
            ("value", ("row", ("row", ("row", ("row", ("row", "a")))))), ("value", ("set", (ZERO,), ())), ["x"])
NO_ATOMS = (None, (), "next", ("next",), ("next", ("x",), ()), ["next", ("x",)], ("Next", ("x",)), (True, ("x",)), (("next",), ("x",)), {"next": ("x",)}, ("", ("x",)))
NO_TERM_TUPLES = ((), "x", ["x"], ("x", "x", "x", "x", "x"), None, {"x": 1})
NO_TESTS = (None, (), ("before", "x"), ("before", "x", "x", "x"), ("after", "x", "x"), ["same", "x", "x"], (["same"], "x", "x"), (True, "x", "x"), "same", ("Same", "x", "x"), (("same",), "x", "x"))


def fault(value):
    try:
        check_rules(value)
    except BadRules as error:
        return error.path
    return None


def is_good_term(value):
    if isinstance(value, str):
        return 1 <= len(value) <= 8 and all("a" <= one <= "z" for one in value)
    if type(value) is not tuple or len(value) != 2 or not isinstance(value[0], str) or value[0] != "value":
        return False
    try:
        check_value(value[1])
    except BadValue:
        return False
    return True


def wrong_things(value):
    """All paths to wrong things in the order in which they are gone through, those within wrong things left out."""
    if type(value) is not tuple:
        return [()]
    found = []
    for k, rule in enumerate(value):
        forms = [(k, *path) for path in wrong_forms("rule", rule)]
        found.extend(forms or [(k, *path) for path in wrong_variables(rule)])
    return found


def is_word(value):
    return isinstance(value, str) and is_good_term(value)


SORTS = {"rule": (3, 3, ["head", "body", "tests"]), "body": (1, 3, ["head"] * 3), "tests": (0, 3, ["test"] * 3), "head": (2, 2, [None, "terms"]), "terms": (1, 4, ["term"] * 4), "test": (3, 3, [None, "term", "term"])}


def wrong_forms(sort, value):
    if sort == "term":
        return [] if is_good_term(value) else [()]
    low, high, sorts = SORTS[sort]
    if type(value) is not tuple or not low <= len(value) <= high:
        return [()]
    if sort == "head" and not is_word(value[0]) or sort == "test" and not (isinstance(value[0], str) and value[0] in ("before", "same", "unlike")):
        return [()]
    return [(at, *path) for at, part in enumerate(value) if sorts[at] for path in wrong_forms(sorts[at], part)]


def wrong_variables(rule):
    head, body, tests = rule
    known = [term for _, terms in body for term in terms if isinstance(term, str)]
    places = [(0, 1, at) for at in range(len(head[1]))] + [(2, k, at) for k in range(len(tests)) for at in (1, 2)]
    terms = [*head[1], *[test[at] for test in tests for at in (1, 2)]]
    return [place for place, term in zip(places, terms) if isinstance(term, str) and term not in known]


class CheckRules(unittest.TestCase):
    def test_right_ones(self):
        four = ("a", ("x", "x", ("value", LINE), ("value", "b")))
        for value in ((), FAR, ((four, (four,), ()),), ((four, (four,) * 3, (("same", "x", "x"),) * 3),), ((("value", (("value", "x"),)), (("value", ("value",)),), (("before", "value", ("value", ("row", ZERO))),)),),
                      FAR * 50, ((("a", (("value", EMPTY),)), (("b", (("value", EMPTY),)),), ()),)):
            self.assertIsNone(fault(value), value)
            self.assertIsNone(check_rules(value))

    def test_what_is_no_tuple(self):
        for value in (None, 7, True, "far", [], [FAR[0]], {}, {"far": 1}, Size(1, [])):
            self.assertEqual(fault(value), (), value)
        for value in (None, 7, "far", [], list(FAR[0]), (), FAR[0][:2], (*FAR[0], ()), {}):
            self.assertEqual(fault((FAR[0], value, None)), (1,), value)

    def test_heads_and_bodies(self):
        for atom in NO_ATOMS:
            self.assertEqual(fault(((atom, (NEXT,), ()),)), (0, 0), atom)
            self.assertEqual(fault((FAR[0], (FAR[0][0], (NEXT, NEXT, atom), ()))), (1, 1, 2), atom)
        for terms in NO_TERM_TUPLES:
            self.assertEqual(fault(((("far", terms), (NEXT,), ()),)), (0, 0, 1), terms)
            self.assertEqual(fault(((FAR[0][0], (("next", terms), NEXT), ()),)), (0, 1, 0, 1), terms)
        for body in (None, (), [NEXT], (NEXT,) * 4, "next", {}):
            self.assertEqual(fault(((FAR[0][0], body, ()),)), (0, 1), body)
        for term in NO_TERMS:
            self.assertEqual(fault(((("far", ("x", term)), (NEXT,), ()),)), (0, 0, 1, 1), term)
            self.assertEqual(fault(((FAR[0][0], (NEXT, ("next", ("x", "y", "x", term))), ()),)), (0, 1, 1, 1, 3), term)

    def test_tests(self):
        for tests in (None, [], "same", {}, (("same", "x", "x"),) * 4):
            self.assertEqual(fault(((FAR[0][0], (NEXT,), tests),)), (0, 2), tests)
        for test in NO_TESTS:
            self.assertEqual(fault(((FAR[0][0], (NEXT,), (("same", "x", "x"), test)),)), (0, 2, 1), test)
        for term in NO_TERMS:
            self.assertEqual(fault(((FAR[0][0], (NEXT,), (("same", term, "x"),)),)), (0, 2, 0, 1), term)
            self.assertEqual(fault(((FAR[0][0], (NEXT,), (("same", "x", term),)),)), (0, 2, 0, 2), term)

    def test_variables(self):
        self.assertEqual(fault(((("far", ("x", "z")), (NEXT,), ()),)), (0, 0, 1, 1))
        self.assertEqual(fault(((("far", ("x",)), (NEXT,), (("same", "x", "y"), ("same", "z", "w"))),)), (0, 2, 1, 1))
        self.assertEqual(fault(((("far", ("x",)), (NEXT,), (("same", "x", "w"),)),)), (0, 2, 0, 2))
        # A word in a value is no variable, nor is a name.
        self.assertEqual(fault(((("far", ("z",)), (("z", (("value", "z"),)),), ()),)), (0, 0, 1, 0))
        self.assertIsNone(fault(((("far", (("value", "z"),)), (("z", ("x",)),), (("same", ("value", "z"), "x"),)),)))
        # Variables of one rule are none of another one.
        self.assertEqual(fault((FAR[0], (("far", ("x",)), (("next", ("y", "y")),), ()))), (1, 0, 1, 0))

    def test_which_comes_first(self):
        unbound, no_test = ("far", ("z",)), ("after", "x", "x")
        self.assertEqual(fault(((unbound, (NEXT,), (no_test,)),)), (0, 2, 0))
        self.assertEqual(fault(((unbound, (NEXT,), (("same", "w", "w"),)),)), (0, 0, 1, 0))
        self.assertEqual(fault(((unbound, (NEXT,), ()), ((), (), ()))), (0, 0, 1, 0))
        self.assertEqual(fault(((("Far", ()), (), None),)), (0, 0))
        self.assertEqual(fault(((("far", ()), (), None),)), (0, 0, 1))
        self.assertEqual(fault(((("far", ("x",)), (), None),)), (0, 1))
        self.assertEqual(fault(((("far", ("x",)), (("next", ("x",)), ()), None),)), (0, 1, 1))
        self.assertEqual(fault(((("far", ("x",)), (("next", ("x", ())), ()), None),)), (0, 1, 0, 1, 1))

    def test_errors(self):
        with self.assertRaises(BadRules) as caught:
            check_rules([1])
        self.assertIsInstance(caught.exception, LineError)
        self.assertIs(type(caught.exception.path), tuple)

    def test_any_values_by_chance(self):
        chance, seen = seeded(221), {}
        bad = [*NO_TERMS, *NO_ATOMS, *NO_TESTS, *NO_TERM_TUPLES, "w", (), NEXT, ("x", "y"), ("value", made((ZERO,), [ONE]))]
        for _ in range(1500):
            value = copy_of(FAR)
            for _ in range(chance.choice([0, 1, 1, 2, 3])):
                value = self.bent(chance, value, bad)
            kept = copy_of(value)
            wrong = wrong_things(value)
            self.assertEqual(fault(value), wrong[0] if wrong else None, value)
            self.assertTrue(is_same_thing(value, kept))
            seen[len(wrong[0]) if wrong else None] = True
        self.assertEqual(set(seen), {None, 0, 1, 2, 3, 4, 5})

    def bent(self, chance, value, bad):
        """The value with one of its parts, at any depth, changed, left out, doubled or turned about."""
        if type(value) is not tuple or not value or chance.random() < 0.12:
            draw = chance.random()
            if draw < 0.6 or type(value) is not tuple or not value:
                return chance.choice(bad)
            if draw < 0.7:
                return list(value)
            if draw < 0.8:
                return value[::-1]
            at = chance.randrange(len(value))
            return value[:at] + value[at + 1:] if draw < 0.9 else value[:at + 1] + value[at:]
        at = chance.randrange(len(value))
        return (*value[:at], self.bent(chance, value[at], bad), *value[at + 1:])


if __name__ == "__main__":
    unittest.main()
