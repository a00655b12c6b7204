"""Trees with their chances, the sum of their weights, what is carried, and chances of lots of ties."""

import random
import unittest
from fractions import Fraction
from itertools import combinations, product

from backwalks.apart import apart, flow_of
from backwalks.errors import InvalidNumber, InvalidTies, InvalidWeights, TooMany
from backwalks.trees import carried, lot_chance, tree_sum, trees_of
from tests.helpers import (HALF, NIL, ODD_VALUES, ONE, SPIN, THIRD, Odd, check_given, check_raises, exact,
                           is_told_fraction, nested, pair)
from tests.nets import (ALL_TIES, BARS, BOTH, LET_TIES, LOOP, NO_WEIGHTS, RING, STAR, TIE, TWO, determinant_by_hand,
                        large_weights, many_weights, ties_by_hand, trees_by_hand, trees_sum_by_hand, unlike_pairs,
                        weight_by_hand, weights_of_rows)

WEIGHTS = many_weights()
LISTED = [weights for weights in WEIGHTS if len(trees_by_hand(weights)) <= 400]


def ties_left_out(many, left_out):
    """Weights of 1, 2, 3 and so on, and loops, on all ties but these."""
    rows = [[0] * many for _ in range(many)]
    for at, (i, j) in enumerate(combinations(range(many), 2)):
        if (i, j) not in left_out:
            rows[i][j] = rows[j][i] = at + 1
    rows[0][0] = 4
    return weights_of_rows(rows, 3)


def lots_of_ties(weights, source):
    """Lots of ties of every size: all of them, where there are few, otherwise some."""
    ties = ties_by_hand(weights)
    lots = [lot for size in range(len(ties) + 1) for lot in combinations(ties, size)]
    return lots if len(lots) <= 64 else source.sample(lots, 40) + [(), tuple(ties)]


class TreesOfTest(unittest.TestCase):

    def test_all_trees_with_their_chances(self):
        for weights in LISTED:
            told, in_all = trees_of(weights), trees_sum_by_hand(weights)
            self.assertIs(type(told), tuple)
            self.assertEqual([tree for tree, _ in told], trees_by_hand(weights))
            self.assertEqual([chance for _, chance in told],
                             [pair(weight_by_hand(weights, tree) / in_all) for tree in trees_by_hand(weights)])
            self.assertEqual(sum(exact(chance) for _, chance in told), 1)
            self.assertTrue(all(type(each) is tuple and is_told_fraction(each[1]) for each in told))

    def test_in_order(self):
        for weights in LISTED:
            told = trees_of(weights)
            trees = [tree for tree, _ in told]
            self.assertEqual(trees, sorted(set(trees)))
            for tree in trees:
                self.assertEqual(list(tree), sorted(set(tree)))
                self.assertEqual(len(tree), len(weights) - 1)

    def test_few_places(self):
        self.assertEqual([trees_of(LOOP), trees_of(TIE)], [(((), ONE),), ((((0, 1),), ONE),)])
        self.assertEqual(trees_of(weights=BARS), ((((0, 1), (1, 2)), ONE),))
        self.assertEqual(trees_of(RING), ((((0, 1), (0, 2)), THIRD), (((0, 1), (1, 2)), THIRD),
                                          (((0, 2), (1, 2)), THIRD)))
        self.assertEqual([chance for _, chance in trees_of(weights_of_rows([[0, 1, 2], [1, 0, 3], [2, 3, 9]]))],
                         [(2, 11), (3, 11), (6, 11)])

    def test_as_many_as_are_let(self):
        told = trees_of(LET_TIES)
        self.assertEqual([len(told), told[0][1], told[-1][1]], [384, (1, 384), (1, 384)])
        weights = ties_left_out(6, [(0, 5), (1, 4), (2, 3)])
        self.assertEqual(len(trees_of(weights)), 384)
        self.assertEqual([tree for tree, _ in trees_of(weights)], trees_by_hand(weights))

    def test_too_many(self):
        wrong = [([], 1296), ([(2, 4)], 864), ([(0, 1), (2, 3)], 576), ([(0, 1), (0, 2)], 540)]
        for left_out, many in wrong:
            weights = ties_left_out(6, left_out)
            self.assertEqual(len(trees_by_hand(weights)), many)
            check_raises(self, TooMany, {"given": many}, lambda: trees_of(weights))
        check_raises(self, TooMany, {"given": 1296}, lambda: trees_of(ALL_TIES))
        check_raises(self, TooMany, {"given": 1296}, lambda: trees_of(weights=large_weights(6)))
        # Five places have 125 trees at most.
        self.assertEqual(len(trees_of(large_weights(5))), 125)

    def test_no_weights(self):
        calls = (trees_of, tree_sum, lambda value: trees_of(weights=value), lambda value: tree_sum(weights=value))
        check_given(self, InvalidWeights, calls, NO_WEIGHTS + ODD_VALUES)


class TreeSumTest(unittest.TestCase):

    def test_by_all_trees(self):
        for weights in WEIGHTS:
            told = tree_sum(weights)
            self.assertTrue(is_told_fraction(told))
            self.assertEqual(told, pair(trees_sum_by_hand(weights)))

    def test_the_determinant_whichever_place_is_left_out(self):
        for weights in WEIGHTS + [large_weights(4)]:
            table, places = exact(weights), range(len(weights))
            square = [[sum(table[i]) - table[i][i] if i == j else -table[i][j] for j in places] for i in places]
            for left_out in places:
                rest = [[square[i][j] for j in places if j != left_out] for i in places if i != left_out]
                self.assertEqual(tree_sum(weights), pair(determinant_by_hand(rest)))

    def test_few_places(self):
        self.assertEqual([tree_sum(LOOP), tree_sum(TIE), tree_sum(BOTH), tree_sum(BARS)], [ONE, HALF, THIRD, TWO])
        self.assertEqual([tree_sum(RING), tree_sum(STAR), tree_sum(weights=ALL_TIES), tree_sum(LET_TIES)],
                         [(3, 1), (27, 1), (1296, 1), (384, 1)])


class CarriedTest(unittest.TestCase):

    def test_the_flow_driven(self):
        for weights in WEIGHTS:
            for one, two in unlike_pairs(weights)[::3]:
                flow = flow_of(weights, one, two)
                for start, end in product(range(len(weights)), repeat=2):
                    self.assertEqual(carried(weights, one, two, start, end), flow[start][end])

    def test_over_the_weight_it_is_the_same_the_other_way_round(self):
        for weights in WEIGHTS:
            ties = ties_by_hand(weights)
            for (one, two), (start, end) in list(combinations(ties, 2))[:30]:
                there = exact(carried(weights, one, two, start, end)) / exact(weights[start][end])
                back = exact(carried(weights, start, end, one, two)) / exact(weights[one][two])
                self.assertEqual(there, back)

    def test_few_places(self):
        self.assertEqual([carried(TIE, 0, 1, 0, 1), carried(TIE, 0, 1, 1, 0), carried(TIE, 1, 0, 0, 0)],
                         [ONE, (-1, 1), NIL])
        self.assertEqual([carried(BOTH, 1, 0, 0, 0), carried(BARS, 0, 1, 1, 2), carried(BARS, 0, 1, 0, 2)], [NIL] * 3)
        self.assertEqual(carried(weights=RING, one=0, two=1, start=0, end=2), THIRD)
        self.assertEqual(carried(end=1, start=2, two=1, one=0, weights=RING), THIRD)

    def test_wrong_arguments(self):
        wrong = [None, True, False, -1, 3, 10 ** 50, "0", b"\x00", (0,), [0], {0}, {0: 1}, Fraction(1), Odd(),
                 nested(20)]
        for value in wrong:
            for given in ((value, 1, 0, 1), (value, value, 0, 1), (value, 1, None, 1), (0, value, 0, 1),
                          (0, value, 9, 9), (0, 1, value, 1), (0, 1, value, None), (0, 1, 0, value),
                          (0, 1, value, value)):
                one, two, start, end = given
                check_raises(self, InvalidNumber, {"given": value}, lambda: carried(RING, one, two, start, end))
                check_raises(self, InvalidNumber, {"given": value},
                             lambda: carried(end=end, start=start, two=two, one=one, weights=RING))
        check_raises(self, InvalidNumber, {"given": 1}, lambda: carried(RING, 1, 1, 0, 2))
        check_raises(self, InvalidNumber, {"given": 1}, lambda: carried(RING, 1, 1, None, None))
        check_raises(self, InvalidNumber, {"given": 0}, lambda: carried(LOOP, 0, 0, 0, 0))

    def test_no_weights(self):
        calls = (lambda value: carried(value, 0, 1, 0, 1), lambda value: carried(value, None, None, 9, 9))
        check_given(self, InvalidWeights, calls, NO_WEIGHTS + ODD_VALUES + [SPIN])


class LotChanceTest(unittest.TestCase):

    def test_by_the_trees_that_have_them(self):
        source, kinds = random.Random(21), {True: 0, False: 0}
        for weights in WEIGHTS:
            trees, in_all = trees_by_hand(weights), trees_sum_by_hand(weights)
            for lot in lots_of_ties(weights, source):
                with_them = sum(weight_by_hand(weights, tree) for tree in trees if set(lot) <= set(tree))
                told = lot_chance(weights, lot)
                self.assertTrue(is_told_fraction(told))
                self.assertEqual(told, pair(Fraction(with_them) / in_all))
                kinds[told == NIL] += 1
        self.assertGreater(min(kinds.values()), 100)

    def test_a_tie_by_its_weight_and_the_apart_of_its_ends(self):
        for weights in WEIGHTS:
            for i, j in ties_by_hand(weights):
                told = exact(lot_chance(weights, ((i, j),)))
                self.assertEqual(told, exact(weights[i][j]) * exact(apart(weights, i, j)))

    def test_no_two_ties_help_one_another(self):
        less = 0
        for weights in WEIGHTS:
            ties = ties_by_hand(weights)
            alone = {tie: exact(lot_chance(weights, (tie,))) for tie in ties}
            for one, other in combinations(ties, 2):
                both = exact(lot_chance(weights, (one, other)))
                self.assertLessEqual(both, alone[one] * alone[other])
                less += both < alone[one] * alone[other]
        self.assertGreater(less, 100)

    def test_none_one_and_more_than_a_tree_has(self):
        for weights in [LOOP, TIE, BOTH, BARS, RING, STAR, ALL_TIES, large_weights(4)]:
            self.assertEqual(lot_chance(weights, ()), ONE)
            ties = ties_by_hand(weights)
            if len(ties) >= len(weights):
                self.assertEqual(lot_chance(weights, tuple(ties)), NIL)
                self.assertEqual(lot_chance(weights, tuple(ties[:len(weights)])), NIL)
        self.assertEqual([lot_chance(TIE, ((0, 1),)), lot_chance(STAR, ((0, 3), (1, 3), (2, 3)))], [ONE, ONE])
        self.assertEqual(lot_chance(weights=RING, ties=((0, 1), (0, 2))), THIRD)
        self.assertEqual(lot_chance(ties=((0, 1), (0, 2), (1, 2)), weights=RING), NIL)
        # Three in a ring are in no tree, though a tree has as many.
        self.assertEqual(lot_chance(ALL_TIES, ((0, 1), (0, 2), (1, 2))), NIL)
        self.assertEqual(lot_chance(ALL_TIES, ((0, 1), (2, 3), (4, 5))), (1, 27))

    def test_wrong_ties(self):
        none = [None, [(0, 1)], [], {(0, 1): 1}, {(0, 1)}, "01", b"\x00\x01", 0, True, range(2), Odd()]
        first = [((1, 0),), ((0, 0),), ((0, 3),), ((-1, 1),), ((False, 1),), ((0, True),), (0, 1), ((0, 1, 2),),
                 ((0,),), ((),), ([0, 1],), (None,), ("01",), ({0, 1},), (((0, 1),),), (nested(19),), ((0, None),),
                 ((None, 1),), ((0, "1"),), ((0, (1,)),), ((0, Fraction(1)),), ((1, 1), (0, 1)), ((2, 1), None)]
        later = [(((0, 1), (0, 1)), 1), (((0, 2), (0, 1)), 1), (((0, 1), (1, 2), (0, 2)), 2), (((0, 1), None, 7), 1),
                 (((0, 1), (0, 2), (2, 1)), 2), (((0, 1), (0, 2), (1, 2), (1, 2)), 3), (((1, 2), (0, 1)), 1),
                 (((0, 1), [0, 2]), 1), (((0, 1), (True, 2)), 1), (((0, 1), (0, 2), (1, 3)), 2)]
        for index, values in [(None, none), (0, first)]:
            for value in values:
                check_raises(self, InvalidTies, {"index": index}, lambda: lot_chance(RING, value))
                check_raises(self, InvalidTies, {"index": index}, lambda: lot_chance(ties=value, weights=RING))
        for value, index in later:
            check_raises(self, InvalidTies, {"index": index}, lambda: lot_chance(RING, value))
        # Pairs of places that are not tied, and loops.
        check_raises(self, InvalidTies, {"index": 0}, lambda: lot_chance(BARS, ((0, 2),)))
        check_raises(self, InvalidTies, {"index": 1}, lambda: lot_chance(BARS, ((0, 1), (0, 2), (1, 2))))
        check_raises(self, InvalidTies, {"index": 0}, lambda: lot_chance(BARS, ((2, 2),)))
        check_raises(self, InvalidTies, {"index": 0}, lambda: lot_chance(LOOP, ((0, 0),)))

    def test_two_wrong_arguments(self):
        for ties in ((), None, ((0, 1), (0, 1))):
            calls = (lambda value: lot_chance(value, ties), lambda value: lot_chance(ties=ties, weights=value))
            check_given(self, InvalidWeights, calls, NO_WEIGHTS + ODD_VALUES + [SPIN])


if __name__ == "__main__":
    unittest.main()
