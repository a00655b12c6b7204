"""The examples of the document, each as it stands there, in tests/examples.txt.

A line behind `>>> ` is a row of Python. What it tells stands in the line below: a value as Python prints it, or
`raises` and an error with what it keeps.
"""

import os
import unittest

from backwalks import errors

EXAMPLES = os.path.join(os.path.dirname(os.path.abspath(__file__)), "examples.txt")


def read_examples():
    """The rows with what each one tells, None for a row that tells nothing."""
    with open(EXAMPLES, encoding="ascii") as file:
        lines = [line for line in file.read().split("\n") if line]
    found = []
    for line in lines:
        if line.startswith(">>> "):
            found.append((line[4:], None))
        else:
            found[-1] = (found[-1][0], line)
    return found


class ExamplesTest(unittest.TestCase):

    def test_examples(self):
        names, told = {}, 0
        for row, expected in read_examples():
            with self.subTest(row=row):
                if expected is None:
                    exec(row, names)
                elif expected.startswith("raises "):
                    self.check_error(row, names, expected[len("raises "):])
                else:
                    self.assertEqual(repr(eval(row, names)), expected)
            told += expected is not None
        self.assertGreaterEqual(told, 10)

    def check_error(self, row, names, expected):
        expected = eval(expected, dict(vars(errors)))
        with self.assertRaises(errors.WalkError) as caught:
            eval(row, names)
        self.assertIs(type(caught.exception), type(expected))
        self.assertEqual(vars(caught.exception), vars(expected))


if __name__ == "__main__":
    unittest.main()
