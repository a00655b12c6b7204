"""The names, places and parameters of the interface."""

import importlib
import inspect
import unittest

from tests.helpers import LEAN, LINE, SPIN, large_walk

LISTED = {
    "backwalks.walks": {
        "is_walk": ["value"], "shares_of": ["walk"], "tree_sums": ["walk"], "flows_of": ["walk"],
        "seen_chance": ["walk", "places"],
    },
    "backwalks.backward": {
        "backward": ["walk"], "is_alike": ["walk"], "is_ring": ["walk", "value"], "products": ["walk", "ring"],
        "unlike_ring": ["walk"],
    },
}


class InterfaceTest(unittest.TestCase):

    def test_defined_where_listed(self):
        for module, functions in LISTED.items():
            for name in functions:
                self.assertEqual(getattr(importlib.import_module(module), name).__module__, module)

    def test_parameters(self):
        for module, functions in LISTED.items():
            for name, parameters in functions.items():
                told = inspect.signature(getattr(importlib.import_module(module), name)).parameters
                self.assertEqual(list(told), parameters)
                for parameter in told.values():
                    self.assertIs(parameter.kind, inspect.Parameter.POSITIONAL_OR_KEYWORD)
                    self.assertIs(parameter.default, inspect.Parameter.empty)

    def test_equal_calls_return_equal_results(self):
        rest = {"value": (0, 1, 2), "places": (0, 1, 0), "ring": (0, 1, 2)}
        for module, functions in LISTED.items():
            for name, parameters in functions.items():
                function = getattr(importlib.import_module(module), name)
                for walk in (LEAN, LINE, SPIN, large_walk(3)):
                    if "ring" in parameters and len(walk) < 3:
                        continue
                    given = {each: walk if each == "walk" else rest[each] for each in parameters}
                    before = repr(given)
                    first = function(**given)
                    self.assertEqual(function(**given), first)
                    self.assertEqual(function(*given.values()), first)
                    self.assertEqual(repr(given), before)


if __name__ == "__main__":
    unittest.main()
