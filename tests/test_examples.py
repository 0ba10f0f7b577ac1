"""The examples of the document's interface, as they stand there: examples.txt has them."""

import os
import unittest

from gapwise import errors

HERE = os.path.dirname(os.path.abspath(__file__))


def examples():
    """Triples of a file's name, an example and what is told about it, None if it is only done."""
    with open(os.path.join(HERE, "examples.txt"), encoding="utf-8") as held:
        lines = held.read().split("\n")
    found, module = [], None
    for at, line in enumerate(lines):
        if line.startswith("### "):
            module = line[4:]
        elif line.startswith("    >>> "):
            behind = lines[at + 1] if at + 1 < len(lines) else ""
            told = behind.strip() if behind.startswith("    ") and not behind.startswith("    >>> ") else None
            found.append((module, line[8:], told))
    return found


class Examples(unittest.TestCase):
    def test_examples(self):
        names = {}
        done = 0
        for module, code, told in examples():
            with self.subTest(module=module, code=code):
                done += 1
                if told is None:
                    exec(code, names)
                elif told.startswith("raises "):
                    self.check_error(code, names, told[len("raises "):])
                else:
                    self.assertEqual(repr(eval(code, names)), told)
        self.assertEqual(done, 207)

    def check_error(self, code, names, told):
        expected = eval(told, dict(vars(errors)))
        with self.assertRaises(type(expected)) as caught:
            eval(code, names)
        self.assertIs(type(caught.exception), type(expected))
        self.assertEqual(vars(caught.exception), vars(expected))


if __name__ == "__main__":
    unittest.main()
