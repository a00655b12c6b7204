"""The examples of the document, each as it stands there, in tests/examples.txt.

A line behind `>>> ` is a row of Python. What it tells stands in the line below: a value as Python prints it, or
`raises` and an error with what it keeps. The examples of README.md are run, too.
"""

import ast
import os
import unittest

from backwalks import errors

HERE = os.path.dirname(os.path.abspath(__file__))
EXAMPLES, README = os.path.join(HERE, "examples.txt"), os.path.join(os.path.dirname(HERE), "README.md")


def read_examples():
    """The rows with what each one tells, None for a row that tells nothing."""
    with open(EXAMPLES, encoding="ascii") as file:
        lines = [line for line in file.read().split("\n") if line]
    found = []
    for line in lines:
        if line.startswith(">>> "):
            found.append((line[4:], None))
        else:
            found[-1] = (found[-1][0], line)
    return found


class ExamplesTest(unittest.TestCase):

    def test_examples(self):
        names, told = {}, 0
        for row, expected in read_examples():
            with self.subTest(row=row):
                if expected is None:
                    exec(row, names)
                elif expected.startswith("raises "):
                    self.check_error(row, names, expected[len("raises "):])
                else:
                    self.assertEqual(repr(eval(row, names)), expected)
            told += expected is not None
        self.assertEqual(told, 29)

    def test_readme(self):
        with open(README, encoding="ascii") as file:
            blocks = [block.split("```")[0] for block in file.read().split("```python\n")[1:]]
        text, names, told = "".join(blocks), {}, 0
        for node in ast.parse(text).body:
            row = ast.get_source_segment(text, node)
            if not isinstance(node, ast.Expr):
                exec(row, names)
                continue
            comment = text.split("\n")[node.end_lineno - 1].partition("  # ")[2]
            with self.subTest(row=row):
                self.assertTrue(comment.startswith(repr(eval(row, names))), comment)
            told += 1
        self.assertGreaterEqual(told, 12)

    def check_error(self, row, names, expected):
        expected = eval(expected, dict(vars(errors)))
        with self.assertRaises(errors.WalkError) as caught:
            eval(row, names)
        self.assertIs(type(caught.exception), type(expected))
        self.assertEqual(vars(caught.exception), vars(expected))


if __name__ == "__main__":
    unittest.main()
