"""The names, places and parameters of the interface."""

import importlib
import inspect
import unittest

from tests.helpers import HALF, LEAN, LINE, NIL, ONE, SPIN, THIRD, large_walk
from tests.nets import BARS, RING, STAR, large_weights

LISTED = {
    "backwalks.walks": {
        "is_walk": ["value"], "shares_of": ["walk"], "tree_sums": ["walk"], "flows_of": ["walk"],
        "seen_chance": ["walk", "places"],
    },
    "backwalks.backward": {
        "backward": ["walk"], "is_alike": ["walk"], "is_ring": ["walk", "value"], "products": ["walk", "ring"],
        "unlike_ring": ["walk"],
    },
    "backwalks.weights": {"is_weights": ["value"], "walk_of": ["weights"], "weights_of": ["walk"]},
    "backwalks.turning": {
        "two_way": ["walk"], "turns_of": ["walk"], "are_turns": ["walk", "value"], "by_toss": ["walk"],
    },
    "backwalks.within": {"kept": ["walk", "lot"], "fitted": ["walk", "shares"]},
    "backwalks.apart": {
        "heights_of": ["weights", "one", "two"], "flow_of": ["weights", "one", "two"],
        "apart": ["weights", "one", "two"], "is_flow": ["weights", "one", "two", "value"],
        "flow_cost": ["weights", "one", "two", "flow"], "height_cost": ["weights", "heights"],
        "with_more": ["weights", "one", "two", "more"], "in_all": ["weights"],
        "there_and_back": ["weights", "one", "two"], "apart_table": ["weights"], "weights_for": ["table"],
    },
    "backwalks.trees": {
        "trees_of": ["weights"], "tree_sum": ["weights"], "carried": ["weights", "one", "two", "start", "end"],
        "lot_chance": ["weights", "ties"],
    },
    "backwalks.watched": {
        "watched_at": ["walk", "lot"], "remains": ["weights", "lot"],
        "are_alike_at": ["weights", "lot", "other", "row"], "parted_at": ["weights", "lot", "other", "row"],
    },
    "backwalks.glasses": {
        "is_glasses": ["many", "value"], "is_sighted": ["value"], "row_chance": ["sighted", "row"],
        "state_of": ["sighted", "row"], "sight_of": ["sighted", "row"], "put_together": ["sighted", "glasses"],
    },
    "backwalks.seen": {
        "basis": ["one", "other"], "parting": ["one", "other"], "seen_alike": ["one", "other"],
        "both_ways": ["sighted"], "telling": ["sighted"], "rank": ["sighted"], "heads": ["sighted"],
        "tails": ["sighted"],
    },
    "backwalks.language": {"is_told": ["value"], "read_told": ["text"], "told_text": ["told"]},
    "backwalks.checker": {"accepts": ["claim", "paper"]},
    "backwalks.certificates": {"certify_way": ["walk"], "certify_turns": ["walk"]},
    "backwalks.certifyweights": {
        "certify_apart": ["weights", "one", "two", "number"], "certify_trees": ["weights", "ties"],
        "certify_places": ["weights", "lot", "other", "row"],
    },
    "backwalks.certifyseen": {
        "certify_seen": ["one", "other"], "certify_sight": ["sighted"], "certify_rank": ["sighted"],
    },
}
# Of each class the parameters of its making, and those of its methods.
CLASSES = {
    "backwalks.desks": {"Desk": (["told"], {
        "put": ["name", "row"], "tie": ["name", "other", "number"], "look": ["glasses"], "undo": [], "trial": [],
        "tried": ["action"], "__len__": [],
    })},
    "backwalks.consoles": {"Console": (["desk"], {"say": ["line"]})},
}

FLOW = ((NIL, ONE, NIL), ((-1, 1), NIL, NIL), (NIL, NIL, NIL))
# For each parameter values that all functions take, whatever walk or weights of three places stand beside them.
GIVEN = {
    "value": [(0, 1, 2), FLOW, LINE, None], "places": [(0, 1, 0)], "ring": [(0, 1, 2)], "walk": [LINE, large_walk(3)],
    "weights": [RING, BARS, large_weights(3)], "one": [0], "two": [1], "lot": [(0, 1), (1,)], "flow": [FLOW],
    "shares": [(THIRD, THIRD, THIRD), (HALF, (1, 4), (1, 4))], "heights": [(ONE, NIL, (-1, 2))], "more": [ONE],
    "table": [FLOW, ((NIL, HALF), (HALF, NIL))], "start": [2], "end": [1], "ties": [((0, 1), (1, 2)), ()],
    "other": [STAR, RING], "row": [(0, 1), (1,)], "many": [3], "sighted": [(LINE, (0, 1, 2)), (SPIN, (0, 1, 1))],
    "glasses": [(0, 1, 1), (0, 0, 0)], "text": ["weights\nplaces a\na - a 1"],
    "number": [ONE, (1, 10 ** 60)], "claim": [("alike", LINE), ("told by none", FLOW), ["alike", LINE]],
    "paper": [BARS, (), [()]],
    "told": [("walk", LINE, (1, 0, 0), ("a", "b", "c")), ("weights", RING, None, ("a", "b", "c"))],
}
# In some modules a name stands for something else.
SEEN = {"one": [(LINE, (0, 1, 1)), (SPIN, (1, 0, 1))], "other": [(SPIN, (0, 0, 1)), (LEAN, (0, 1))]}
ELSEWHERE = {"backwalks.seen": SEEN, "backwalks.certifyseen": SEEN}


def listed():
    """Each function of the interface with its module and parameters."""
    for module, functions in LISTED.items():
        for name, parameters in functions.items():
            yield module, getattr(importlib.import_module(module), name), parameters


def choices(module, parameters):
    """Arguments for the parameters, by name, in their order."""
    given = {**GIVEN, **ELSEWHERE.get(module, {})}
    most = max(len(given[name]) for name in parameters)
    return [{name: given[name][at % len(given[name])] for name in parameters} for at in range(most)]


class InterfaceTest(unittest.TestCase):

    def test_defined_where_listed(self):
        for module, function, _ in listed():
            self.assertEqual(function.__module__, module)

    def test_parameters(self):
        for _, function, parameters in listed():
            told = inspect.signature(function).parameters
            self.assertEqual(list(told), parameters)
            for parameter in told.values():
                self.assertIs(parameter.kind, inspect.Parameter.POSITIONAL_OR_KEYWORD)
                self.assertIs(parameter.default, inspect.Parameter.empty)

    def test_classes(self):
        for module, classes in CLASSES.items():
            for name, (parameters, methods) in classes.items():
                told = getattr(importlib.import_module(module), name)
                self.assertEqual(told.__module__, module)
                self.assertEqual(list(inspect.signature(told).parameters), parameters)
                for method, expected in methods.items():
                    function = vars(told)[method]
                    self.assertEqual(function.__module__, module)
                    found = inspect.signature(function).parameters
                    self.assertEqual(list(found), ["self"] + expected)
                    for parameter in found.values():
                        self.assertIs(parameter.kind, inspect.Parameter.POSITIONAL_OR_KEYWORD)
                        self.assertIs(parameter.default, inspect.Parameter.empty)

    def test_equal_calls_return_equal_results(self):
        for module, function, parameters in listed():
            for given in choices(module, parameters):
                if function.__name__ == "weights_of" and given["walk"] != LINE:
                    continue
                before = repr(given)
                first = function(**given)
                self.assertEqual(function(**given), first)
                self.assertEqual(function(*given.values()), first)
                self.assertEqual(function(**dict(reversed(given.items()))), first)
                self.assertEqual(repr(given), before)

    def test_walks_of_other_sizes(self):
        for walk in (LEAN, SPIN):
            for _, function, parameters in listed():
                if parameters == ["walk"] and (function.__name__ != "weights_of" or walk == LEAN):
                    self.assertEqual(function(walk), function(walk=walk))


if __name__ == "__main__":
    unittest.main()
