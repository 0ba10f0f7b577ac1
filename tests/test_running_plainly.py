"""Programs made by chance come to what they come to straight from the words of the document."""

import unittest

from gapwise.errors import TooMany
from gapwise.running import run, run_count
from gapwise.trees import is_of
from tests.helping import copy_of, is_same_thing, seeded
from tests.plainly import Maker, Plainly


def told_or_none(ask):
    try:
        return ask()
    except TooMany:
        return None


class Plain(unittest.TestCase):
    def test_programs_made_by_chance(self):
        chance, told, too_many = seeded(61), 0, 0
        for _ in range(4000):
            program, values = Maker(chance).program()
            runs, members = chance.choice([40, 150]), chance.choice([4, 10, 40])
            plainly = Plainly(program, runs, members)
            expected = told_or_none(lambda: plainly.run(values))
            kept = copy_of(values)
            seen = told_or_none(lambda: run(program, values, runs=runs, members=members))
            self.assertTrue(is_same_thing(seen, expected), (program.functions(), program.block(), values, runs, members))
            self.assertTrue(is_same_thing(values, kept))
            if expected is None:
                too_many += 1
                continue
            told += 1
            self.assertEqual(list(seen), list(program.kinds()))
            self.assertTrue(all(is_of(seen[name], kind) for name, kind in program.kinds().items()))
            self.assertEqual(run_count(program, values), plainly.begun)
            if plainly.begun > 1:
                self.assertEqual(run(program, values, runs=plainly.begun, members=members), expected)
                self.assertIsNone(told_or_none(lambda: run(program, values, runs=plainly.begun - 1, members=members)))
        self.assertGreater(told, 3000)
        self.assertGreater(too_many, 50)


if __name__ == "__main__":
    unittest.main()
