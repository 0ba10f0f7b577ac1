import unittest

from gapwise import errors
from gapwise.errors import LineError, NotThere
from tests.helping import copy_of, is_same_thing

BENEATH_LINE_ERROR = {
    "TooMany": [], "BadMove": [], "BadSample": [], "OtherGaps": [], "BadSize": [], "BadDeed": [], "NothingDone": [],
    "BadLine": [], "BadPoint": ["p", "q"], "BadValue": ["path"], "BadProgram": ["path"], "MixedKinds": ["path"],
    "BadRules": ["path"], "BadText": ["place"], "TwiceTold": ["name"], "BadName": ["name"], "NoSet": ["name"],
    "WrongKind": ["name"], "Clash": ["names"], "PartedBy": ["word"], "NotEnough": ["value"], "BadReply": ["number"]}
BENEATH_NOT_THERE = {
    "NoPoint": ["point"], "NoMember": ["value"], "NoLetter": ["number"], "NoDeed": ["number"], "UnknownName": ["name"]}
ALL = {**BENEATH_LINE_ERROR, **BENEATH_NOT_THERE}


def lists_in(value):
    """All lists and dicts in a value."""
    if isinstance(value, dict):
        return [value, *sum([lists_in(part) for part in value.values()], [])]
    if isinstance(value, (list, tuple)):
        return [value] * isinstance(value, list) + sum([lists_in(part) for part in value], [])
    return []


class Errors(unittest.TestCase):
    def test_the_two_bases(self):
        self.assertEqual(LineError.__bases__, (ValueError,))
        self.assertEqual(NotThere.__bases__, (LookupError,))

    def test_what_stands_beneath_what(self):
        for name in BENEATH_LINE_ERROR:
            self.assertEqual(getattr(errors, name).__bases__, (LineError,), name)
        for name in BENEATH_NOT_THERE:
            self.assertEqual(getattr(errors, name).__bases__, (NotThere,), name)

    def test_all_are_defined_in_this_file(self):
        for name in [*ALL, "LineError", "NotThere"]:
            self.assertEqual(getattr(errors, name).__module__, "gapwise.errors")
            self.assertEqual(getattr(errors, name).__name__, name)

    def test_arguments_are_attributes(self):
        for name, words in ALL.items():
            told = [("x", k) for k in range(len(words))]
            error = getattr(errors, name)(*told)
            self.assertEqual([getattr(error, word) for word in words], told, name)
            by_word = getattr(errors, name)(**dict(zip(words, told)))
            self.assertEqual([getattr(by_word, word) for word in words], told, name)

    def test_called(self):
        for name, words in ALL.items():
            self.assertEqual(getattr(errors, name)(*words).called, name)

    def test_another_number_of_arguments(self):
        for name, words in ALL.items():
            with self.assertRaises(TypeError):
                getattr(errors, name)(*words, 1)
            if words:
                with self.assertRaises(TypeError):
                    getattr(errors, name)(*words[1:])

    def test_errors_bear_copies(self):
        for name, words in ALL.items():
            for word in words:
                thing = (True, [1, [2, (3, [4])], {"a": [5], "b": {"c": []}}], {"d": [6]}, 0)
                error = getattr(errors, name)(*[thing if one == word else () for one in words])
                kept = getattr(error, word)
                self.assertTrue(is_same_thing(kept, thing), name)
                there = lists_in(kept) + lists_in(error.args)
                for one in lists_in(thing):
                    self.assertFalse(any(one is other for other in there), name)

    def test_a_list_that_is_changed_later(self):
        rows = [1, [2]]
        error = errors.NoMember(rows)
        seen = copy_of(error.value)
        rows[1].append(3)
        rows.append(4)
        self.assertEqual(error.value, seen)
        self.assertIsInstance(error.value, list)


if __name__ == "__main__":
    unittest.main()
