"""Weights, their walk, and those of a walk alike backwards."""

import unittest
from fractions import Fraction
from itertools import product

from backwalks.backward import backward, is_alike, products, unlike_ring
from backwalks.errors import InvalidWalk, InvalidWeights, NotAlike
from backwalks.walks import flows_of, is_walk, shares_of
from backwalks.weights import is_weights, walk_of, weights_of
from tests.helpers import (ALONE, HALF, LEAN, LINE, MORE, NIL, ODD_VALUES, ONE, SPIN, SWAP, THIRD, WHEEL, check_given,
                           check_raises, cycle_walk, exact, is_told_table, large_walk, many_walks, pair)
from tests.nets import (ALL_TIES, BARS, BOTH, LET_TIES, LOOP, NO_WEIGHTS, RING, STAR, TIE, TWO, large_weights,
                        many_weights)

WALKS = many_walks()
WEIGHTS = many_weights()


class IsWeightsTest(unittest.TestCase):

    def test_weights(self):
        for weights in [LOOP, TIE, BOTH, BARS, RING, STAR, ALL_TIES, LET_TIES, large_weights(6)] + WEIGHTS:
            self.assertIs(is_weights(weights), True)

    def test_no_weights(self):
        for value in NO_WEIGHTS + ODD_VALUES:
            self.assertIs(is_weights(value), False, value)

    def test_one_place(self):
        told = [is_weights(((number,),)) for number in (ONE, (1, 7), (400, 3), NIL, (-1, 1), (2, 4), 1, True)]
        self.assertEqual(told, [True, True, True, False, False, False, False, False])

    def test_each_number_a_little_off(self):
        for many in range(2, 7):
            for i, j in product(range(many), repeat=2):
                for number in ((2, 1), NIL, (-1, 1), (3, 3), [1, 1], True, None, 1):
                    rows = [[ONE] * many for _ in range(many)]
                    rows[i][j] = number
                    told = is_weights(tuple(tuple(row) for row in rows))
                    self.assertIs(told, i == j and number in ((2, 1), NIL) and isinstance(number, tuple))

    def test_loops(self):
        for many in range(2, 7):
            rows = [[ONE if abs(i - j) == 1 else NIL for j in range(many)] for i in range(many)]
            self.assertIs(is_weights(tuple(tuple(row) for row in rows)), True)
            rows[many - 1][many - 1] = HALF
            self.assertIs(is_weights(tuple(tuple(row) for row in rows)), True)
            rows[many - 2][many - 1] = rows[many - 1][many - 2] = NIL
            self.assertIs(is_weights(tuple(tuple(row) for row in rows)), False)

    def test_walks_that_are_weights(self):
        self.assertEqual([is_weights(ALONE), is_weights(SWAP), is_weights(SPIN), is_weights(LEAN)],
                         [True, True, False, False])

    def test_by_name(self):
        self.assertEqual([is_weights(value=RING), is_weights(value=None)], [True, False])


class WalkOfTest(unittest.TestCase):

    def test_rows_over_their_sums(self):
        for weights in WEIGHTS + [large_weights(5)]:
            walk, numbers = walk_of(weights), exact(weights)
            self.assertTrue(is_told_table(walk, len(weights)))
            for i, j in product(range(len(weights)), repeat=2):
                self.assertEqual(walk[i][j], pair(numbers[i][j] / sum(numbers[i])))

    def test_alike_backwards(self):
        for weights in WEIGHTS + [large_weights(4)]:
            walk = walk_of(weights)
            self.assertIs(is_walk(walk), True)
            self.assertEqual([is_alike(walk), backward(walk), unlike_ring(walk)], [True, walk, None])

    def test_shares_are_the_sums_of_rows(self):
        for weights in WEIGHTS + [large_weights(6)]:
            sums = [sum(row) for row in exact(weights)]
            self.assertEqual(shares_of(walk_of(weights)), tuple(pair(each / sum(sums)) for each in sums))

    def test_just_its_flows_times_one_number(self):
        for weights in WEIGHTS:
            walk, numbers = walk_of(weights), exact(weights)
            in_all = sum(sum(row) for row in numbers)
            self.assertEqual(exact(flows_of(walk)), [[number / in_all for number in row] for row in numbers])
            for factor in (Fraction(1, 7), Fraction(5, 2), in_all):
                more = tuple(tuple(pair(number * factor) for number in row) for row in numbers)
                self.assertEqual(walk_of(more), walk)

    def test_few_places(self):
        self.assertEqual([walk_of(LOOP), walk_of(TIE), walk_of(BOTH)],
                         [ALONE, SWAP, (((3, 4), (1, 4)), (ONE, NIL))])
        self.assertEqual([walk_of(weights=BARS), walk_of(RING)[0]], [LINE, (NIL, HALF, HALF)])

    def test_no_weights(self):
        calls = (walk_of, lambda value: walk_of(weights=value))
        check_given(self, InvalidWeights, calls, NO_WEIGHTS + ODD_VALUES + [SPIN, LEAN, WHEEL])


class WeightsOfTest(unittest.TestCase):

    def test_there_and_back(self):
        for walk in WALKS:
            if is_alike(walk):
                weights = weights_of(walk)
                self.assertIs(is_weights(weights), True)
                self.assertEqual([weights, walk_of(weights)], [flows_of(walk), walk])
        for weights in WEIGHTS:
            self.assertEqual(walk_of(weights_of(walk_of(weights))), walk_of(weights))

    def test_flows_one_place_and_two(self):
        self.assertEqual([weights_of(ALONE), weights_of(SWAP)], [((ONE,),), ((NIL, HALF), (HALF, NIL))])
        self.assertEqual([weights_of(walk=LEAN), weights_of(LINE)[2]], [(((1, 5), (1, 5)), ((1, 5), (2, 5))),
                                                                       (NIL, (2, 7), (1, 7))])

    def test_just_one_is_so(self):
        ways = []
        for walk in WALKS + [large_walk(6)]:
            ring = unlike_ring(walk)
            ways.append(ring is None)
            if ring is None:
                self.assertEqual(walk_of(weights_of(walk)), walk)
            else:
                around, back = products(walk, ring)
                self.assertNotEqual(around, back)
                check_raises(self, NotAlike, {"ring": ring}, lambda: weights_of(walk))
        self.assertGreater(min(ways.count(True), ways.count(False)), 20)

    def test_not_alike(self):
        check_raises(self, NotAlike, {"ring": (0, 1, 2)}, lambda: weights_of(SPIN))
        check_raises(self, NotAlike, {"ring": (0, 1, 2)}, lambda: weights_of(walk=WHEEL))
        for many in range(3, 7):
            walk = cycle_walk(many, Fraction(1, 2), Fraction(1, 3))
            check_raises(self, NotAlike, {"ring": tuple(range(many))}, lambda: weights_of(walk))

    def test_no_walk(self):
        wrong = [((HALF,),), RING, BARS, ((ONE, NIL), (HALF, HALF)), ((HALF, THIRD), (HALF, HALF)), [[ONE]],
                 ((NIL, MORE, THIRD),), (SPIN[0], SPIN[1], list(SPIN[2])), LOOP, TIE, ((TWO,),)]
        check_given(self, InvalidWalk, (weights_of, lambda value: weights_of(walk=value)), wrong + ODD_VALUES)


if __name__ == "__main__":
    unittest.main()
