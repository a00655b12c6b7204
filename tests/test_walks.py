"""What is a walk, its shares, trees, flows and rows of places."""

import unittest
from fractions import Fraction
from itertools import product

from backwalks.errors import InvalidPlaces, InvalidWalk
from backwalks.walks import flows_of, is_walk, seen_chance, shares_of, tree_sums
from tests.helpers import (ALONE, HALF, LEAN, LINE, NIL, ODD_VALUES, ONE, SPIN, SWAP, THIRD, WHEEL, check_raises, exact,
                           is_told_fraction, is_told_row, is_told_table, large_walk, many_walks, pair, tree_sum_by_hand)

WALKS = many_walks()

NO_WALKS = [
    (), ((),), ((NIL,),), ((HALF,),), (((2, 1),),),
    # not whole: a place that is come to but not left, one left but not come to, two parts
    ((ONE, NIL), (HALF, HALF)), ((HALF, HALF), (NIL, ONE)), ((ONE, NIL), (NIL, ONE)),
    ((NIL, HALF, HALF), (ONE, NIL, NIL), (NIL, NIL, ONE)), ((NIL, HALF, HALF), (NIL, NIL, ONE), (NIL, ONE, NIL)),
    # sums a little beside 1
    (((1, 2), (499999999, 1000000000)), (ONE, NIL)), (((1, 2), (500000001, 1000000000)), (ONE, NIL)),
    ((NIL, ONE), ((1, 10 ** 30), ONE)), ((NIL, NIL), (ONE, NIL)), (((10 ** 30 - 1, 10 ** 30),),),
    # below 0
    (((-1, 2), (3, 2)), (ONE, NIL)), (((-1, 1), (2, 1)), (ONE, NIL)),
    # not in lowest terms, or below a bottom that is not above 0
    (((1, 2), (2, 4)), (ONE, NIL)), (((2, 2),),), (((0, 2), ONE), (ONE, NIL)), (((-1, -2), HALF), (ONE, NIL)),
    (((1, 0), NIL), (ONE, NIL)), (((0, 0), ONE), (ONE, NIL)),
    # True and False in the place of numbers, and numbers in the place of fractions
    (((True, 1),),), (((1, True),),), (((False, 1), ONE), (ONE, NIL)), ((True,),), ((1,),), ((0, 1), (1, 0)),
    # lists in the place of tuples
    [(ONE,)], ([ONE],), (([1, 1],),), [[[1, 1]]], [list(row) for row in SWAP], (SWAP[0], list(SWAP[1])),
    # rows too short, too long, too many, too few
    (SWAP[0],), SWAP + (SWAP[0],), ((NIL, ONE), (ONE,)), ((NIL, ONE, NIL), (ONE, NIL, NIL)), ((ONE, NIL),),
    tuple(tuple((1, 7) for _ in range(7)) for _ in range(7)),
    tuple(tuple(ONE if (i + 1) % 7 == j else NIL for j in range(7)) for i in range(7)),
    # fractions of too many or too few numbers, or of none
    (((1,),),), (((1, 1, 1),),), (((),),), ((("1", "1"),),), (((1, "1"),),), (((1, None),),), ((Fraction(1),),),
]


class IsWalkTest(unittest.TestCase):

    def test_walks(self):
        six = tuple(tuple((1, 6) for _ in range(6)) for _ in range(6))
        for walk in [ALONE, SWAP, LEAN, SPIN, LINE, WHEEL, six, large_walk(6)] + WALKS:
            self.assertIs(is_walk(walk), True)

    def test_no_walks(self):
        for value in NO_WALKS + ODD_VALUES:
            self.assertIs(is_walk(value), False, value)

    def test_each_number_a_little_off(self):
        for many in range(2, 7):
            walk = tuple(tuple((1, many) for _ in range(many)) for _ in range(many))
            for i, j in product(range(many), repeat=2):
                for number in (NIL, (1, many + 1), (-1, many), (2, 2 * many), [1, many], True, None):
                    rows = [list(row) for row in walk]
                    rows[i][j] = number
                    self.assertIs(is_walk(tuple(tuple(row) for row in rows)), False)

    def test_places_left_behind(self):
        # Each place in turn is come to and not left, or left and not come to.
        for many in range(2, 7):
            for place in range(many):
                kept = [[NIL] * many for _ in range(many)]
                for i, j in product(range(many), repeat=2):
                    kept[i][j] = (1, many)
                left = [list(row) for row in kept]
                kept[place] = [ONE if j == place else NIL for j in range(many)]
                for i in range(many):
                    if i != place:
                        left[i] = [NIL if j == place else (1, many - 1) for j in range(many)]
                self.assertIs(is_walk(tuple(tuple(row) for row in kept)), False)
                self.assertIs(is_walk(tuple(tuple(row) for row in left)), False)

    def test_by_name(self):
        self.assertEqual([is_walk(value=SPIN), is_walk(value=None)], [True, False])


class SharesTest(unittest.TestCase):

    def test_at_rest(self):
        for walk in WALKS:
            shares, table = shares_of(walk), exact(walk)
            self.assertTrue(is_told_row(shares, len(walk)))
            numbers = exact(shares)
            self.assertEqual(sum(numbers), 1)
            self.assertTrue(all(number > 0 for number in numbers))
            for j in range(len(walk)):
                self.assertEqual(sum(numbers[i] * table[i][j] for i in range(len(walk))), numbers[j])

    def test_tree_sums_by_hand(self):
        for walk in WALKS:
            sums = tree_sums(walk)
            self.assertTrue(is_told_row(sums, len(walk)))
            self.assertEqual(exact(sums), [tree_sum_by_hand(walk, root) for root in range(len(walk))])

    def test_shares_are_tree_sums_over_their_sum(self):
        for walk in WALKS:
            sums = exact(tree_sums(walk))
            self.assertEqual(exact(shares_of(walk)), [number / sum(sums) for number in sums])

    def test_few_places(self):
        self.assertEqual([shares_of(ALONE), tree_sums(ALONE)], [(ONE,), (ONE,)])
        self.assertEqual([shares_of(SWAP), tree_sums(SWAP)], [(HALF, HALF), (ONE, ONE)])
        self.assertEqual([shares_of(LEAN), tree_sums(LEAN)], [((2, 5), (3, 5)), (THIRD, HALF)])
        self.assertEqual([shares_of(WHEEL), tree_sums(WHEEL)], [(THIRD, THIRD, THIRD), (ONE, ONE, ONE)])

    def test_by_name(self):
        self.assertEqual([shares_of(walk=LEAN), tree_sums(walk=LEAN)], [((2, 5), (3, 5)), (THIRD, HALF)])


class FlowsTest(unittest.TestCase):

    def test_flows(self):
        for walk in WALKS:
            flows, shares, table = flows_of(walk), exact(shares_of(walk)), exact(walk)
            self.assertTrue(is_told_table(flows, len(walk)))
            numbers = exact(flows)
            for i, j in product(range(len(walk)), repeat=2):
                self.assertEqual(numbers[i][j], shares[i] * table[i][j])

    def test_as_much_into_a_place_as_out_of_it(self):
        for walk in WALKS:
            numbers = exact(flows_of(walk))
            for i in range(len(walk)):
                self.assertEqual(sum(numbers[i]), sum(row[i] for row in numbers))

    def test_few_places(self):
        self.assertEqual([flows_of(ALONE), flows_of(walk=LEAN)], [((ONE,),), (((1, 5), (1, 5)), ((1, 5), (2, 5)))])


class SeenChanceTest(unittest.TestCase):

    def test_all_short_rows(self):
        for walk in WALKS:
            shares, table = exact(shares_of(walk)), exact(walk)
            for length in range(1, 4):
                for places in product(range(len(walk)), repeat=length):
                    chance = shares[places[0]]
                    for here, there in zip(places, places[1:]):
                        chance *= table[here][there]
                    told = seen_chance(walk, places)
                    self.assertTrue(is_told_fraction(told))
                    self.assertEqual(told, pair(chance))

    def test_rows_of_one_place(self):
        for walk in WALKS:
            self.assertEqual(tuple(seen_chance(walk, (place,)) for place in range(len(walk))), shares_of(walk))

    def test_long_rows(self):
        self.assertEqual(seen_chance(SPIN, (0, 1, 2) * 100), pair(Fraction(1, 3) * Fraction(2, 3) ** 299))
        self.assertEqual(seen_chance(SPIN, (2, 1, 0) * 100), pair(Fraction(1, 3) ** 300))
        self.assertEqual(seen_chance(ALONE, (0,) * 400), ONE)
        self.assertEqual(seen_chance(SPIN, (0, 1, 2) * 100 + (2,)), NIL)

    def test_by_name(self):
        self.assertEqual(seen_chance(walk=LINE, places=(0, 1, 2)), (2, 21))
        self.assertEqual(seen_chance(places=(0, 1, 2), walk=LINE), (2, 21))

    def test_no_row_of_places(self):
        for value in [None, (), [], [0, 1], {0: 1}, {0}, "01", b"01", 0, True, range(2), Fraction(1, 2)]:
            check_raises(self, InvalidPlaces, {"index": None}, lambda: seen_chance(LINE, value))

    def test_the_first_that_is_no_place(self):
        wrong = [((3,), 0), ((-1,), 0), ((0, 1, 3), 2), ((0, -1, 3), 1), ((0, True), 1), ((False, 7), 0),
                 ((0, 1, 1, None), 3), ((0, (1,)), 1), (("0", 0), 0), ((0, 1, 2, [0], 9), 3), ((0, Fraction(1)), 1),
                 ((0, {0}), 1)]
        for value, index in wrong:
            check_raises(self, InvalidPlaces, {"index": index}, lambda: seen_chance(LINE, value))
            check_raises(self, InvalidPlaces, {"index": index}, lambda: seen_chance(places=value, walk=LINE))
        check_raises(self, InvalidPlaces, {"index": 0}, lambda: seen_chance(ALONE, (1,)))
        check_raises(self, InvalidPlaces, {"index": 1}, lambda: seen_chance(SWAP, (1, 2)))
        check_raises(self, InvalidPlaces, {"index": 399}, lambda: seen_chance(SWAP, (1, 0, 0) * 133 + (2,)))


class WrongWalksTest(unittest.TestCase):

    def test_no_walk(self):
        for call in (shares_of, tree_sums, flows_of, lambda walk: seen_chance(walk, (0,))):
            for value in NO_WALKS + ODD_VALUES:
                check_raises(self, InvalidWalk, {"given": value}, lambda: call(value))

    def test_the_value_itself_is_kept(self):
        given = [[ONE]]
        for call in (shares_of, tree_sums, flows_of, lambda walk: seen_chance(walk, (0,))):
            with self.assertRaises(InvalidWalk) as caught:
                call(given)
            self.assertIs(caught.exception.given, given)
        self.assertEqual(given, [[ONE]])

    def test_two_wrong_arguments(self):
        for places in (None, (), (9,), [0], (True,)):
            check_raises(self, InvalidWalk, {"given": None}, lambda: seen_chance(None, places))
            check_raises(self, InvalidWalk, {"given": ()}, lambda: seen_chance(places=places, walk=()))


class LargeNumbersTest(unittest.TestCase):

    def test_six_places(self):
        walk = large_walk(6)
        shares, table = exact(shares_of(walk)), exact(walk)
        self.assertEqual(sum(shares), 1)
        for j in range(6):
            self.assertEqual(sum(shares[i] * table[i][j] for i in range(6)), shares[j])
        self.assertEqual(seen_chance(walk, (3, 1, 4)), pair(shares[3] * table[3][1] * table[1][4]))


if __name__ == "__main__":
    unittest.main()
