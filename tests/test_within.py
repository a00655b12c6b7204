"""Walks kept within a lot, and walks fitted to shares."""

import random
import unittest
from fractions import Fraction
from itertools import combinations, product

from backwalks.backward import backward, is_alike
from backwalks.errors import InvalidLot, InvalidShares, InvalidWalk, NotWhole
from backwalks.walks import is_walk, shares_of
from backwalks.within import fitted, kept
from tests.helpers import (ALONE, HALF, LEAN, LINE, MORE, NIL, ODD_VALUES, ONE, SPIN, SWAP, THIRD, WHEEL, Odd,
                           check_given, check_raises, cycle_walk, exact, is_told_table, joined, large_walk, many_walks,
                           nested, pair, walk_of_rows)

WALKS = many_walks() + [large_walk(4)]
EVEN = tuple(tuple((1, 6) for _ in range(6)) for _ in range(6))
THIRDS = (THIRD, THIRD, THIRD)

NO_LOTS = [
    (), (6,), (-1,), (0, 6), (-1, 0), (0, 0), (1, 0), (0, 2, 1), (0, 1, 1), (2, 1, 0), (0, 1, 2, 3, 4, 5, 6), (True,),
    (False, 1), (0, True), ("0",), ("0", "1"), (None,), (0, None), (0, (1,)), ((0, 1),), (0, Fraction(1)), (0, [1]),
    [0, 1], [0], {0, 1}, {0: 1}, range(2), "01", b"\x00\x01", 0, 1, nested(20), (0, nested(19)), (Odd(),), (0, {1}),
]

NO_SHARES = [
    (None, [None, [THIRD] * 3, {0: THIRD}, (), (ONE,), (HALF, HALF), ((1, 4),) * 4, THIRD, "abc", b"abc", 3, True,
            {1, 2}, range(3), nested(20), Odd(), Fraction(1, 3)]),
    (None, [(THIRD, THIRD, HALF), (ONE, ONE, ONE), ((1, 4),) * 3, (HALF, HALF, (1, 10 ** 30))]),
    (0, [(0, 1, 2), (NIL, HALF, HALF), ((-1, 3), ONE, THIRD), (None, None, None), ((2, 6), THIRD, THIRD),
         ([1, 3], THIRD, THIRD), ((), (), ()), ((True, 3), THIRD, THIRD), (True, False, False), ((1, 0), NIL, NIL),
         ("1", "1", "1"), ({1, 3}, THIRD, THIRD), (nested(19), THIRD, THIRD), ((-1, -3), THIRD, THIRD)]),
    (1, [(THIRD, NIL, MORE), (ONE, NIL, NIL), (HALF, (-1, 2), ONE), (THIRD, (3, 9), THIRD), (HALF, 0, HALF),
         (HALF, HALF[:1], NIL), (HALF, [1, 2], None)]),
    (2, [(HALF, HALF, NIL), (ONE, ONE, None), (ONE, ONE, (-1, 1)), (THIRD, THIRD, (2, 6)), (THIRD, THIRD, [1, 3]),
         (HALF, HALF, (0, 5)), (THIRD, THIRD, (1, 3, 1))]),
]


def lots_of(many):
    return [lot for length in range(1, many + 1) for lot in combinations(range(many), length)]


def kept_by_hand(walk, lot):
    """The kept table, each step that would leave the lot taken for staying."""
    table = exact(walk)
    rows = [[Fraction(0)] * len(lot) for _ in lot]
    for at, here in enumerate(lot):
        for there in range(len(walk)):
            to = lot.index(there) if there in lot else at
            rows[at][to] += table[here][there]
    return rows


def fitted_by_hand(walk, shares):
    table, shares = exact(walk), exact(shares)
    places = range(len(walk))
    rows = [[min(table[i][j], shares[j] * table[j][i] / shares[i]) if i != j else 0 for j in places] for i in places]
    for i in places:
        rows[i][i] = 1 - sum(rows[i])
    return rows


def told_rows(rows):
    return tuple(tuple(pair(number) for number in row) for row in rows)


def random_shares(many, source):
    numbers = [source.randint(1, 9) for _ in range(many)]
    return tuple(pair(Fraction(number, sum(numbers))) for number in numbers)


class KeptTest(unittest.TestCase):

    def test_all_lots(self):
        whole = {True: 0, False: 0}
        for walk in WALKS:
            for lot in lots_of(len(walk)):
                rows = kept_by_hand(walk, lot)
                whole[joined(rows)] += 1
                if joined(rows):
                    self.assertEqual(kept(walk, lot), told_rows(rows))
                    self.assertTrue(is_told_table(kept(walk, lot), len(lot)))
                    self.assertIs(is_walk(kept(walk, lot)), True)
                else:
                    check_raises(self, InvalidLot, {"given": lot}, lambda: kept(walk, lot))
        self.assertGreater(min(whole.values()), 100)

    def test_alike_backwards_with_shares_over_their_sum(self):
        for walk in WALKS:
            if not is_alike(walk):
                continue
            shares = exact(shares_of(walk))
            for lot in lots_of(len(walk)):
                if joined(kept_by_hand(walk, lot)):
                    told, in_all = kept(walk, lot), sum(shares[place] for place in lot)
                    self.assertIs(is_alike(told), True)
                    self.assertEqual(shares_of(told), tuple(pair(shares[place] / in_all) for place in lot))

    def test_other_walks_need_not_be_so(self):
        walk = walk_of_rows([[0, 3, 1, 1], [1, 0, 3, 1], [3, 1, 0, 1], [1, 1, 1, 0]])
        told = kept(walk, (0, 1, 2))
        self.assertEqual(told[0], ((1, 5), (3, 5), (1, 5)))
        self.assertIs(is_alike(told), False)
        uneven = kept(walk_of_rows([[0, 2, 1], [1, 0, 2], [1, 1, 0]]), (0, 1))
        self.assertEqual([uneven, shares_of(uneven)], [((THIRD, MORE), (THIRD, MORE)), (THIRD, MORE)])

    def test_all_places_and_one_place(self):
        for walk in WALKS:
            self.assertEqual(kept(walk, tuple(range(len(walk)))), walk)
            for place in range(len(walk)):
                self.assertEqual(kept(walk, (place,)), ALONE)

    def test_few_places(self):
        self.assertEqual([kept(ALONE, (0,)), kept(SWAP, (0, 1)), kept(LEAN, (1,))], [ALONE, SWAP, ALONE])
        self.assertEqual(kept(LINE, (0, 1)), ((NIL, ONE), (THIRD, MORE)))
        self.assertEqual(kept(walk=LINE, lot=(1, 2)), ((THIRD, MORE), (MORE, THIRD)))
        self.assertEqual(kept(lot=(0, 1), walk=SPIN), ((THIRD, MORE), (THIRD, MORE)))

    def test_not_whole(self):
        check_raises(self, InvalidLot, {"given": (0, 2)}, lambda: kept(LINE, (0, 2)))
        check_raises(self, InvalidLot, {"given": (0, 1)}, lambda: kept(WHEEL, (0, 1)))
        check_raises(self, InvalidLot, {"given": (1, 2)}, lambda: kept(lot=(1, 2), walk=WHEEL))
        around = cycle_walk(6, Fraction(1, 2), Fraction(1, 2))
        self.assertEqual(kept(around, (0, 1, 2, 5))[0], (NIL, HALF, NIL, HALF))
        check_raises(self, InvalidLot, {"given": (0, 1, 3, 4)}, lambda: kept(around, (0, 1, 3, 4)))

    def test_no_lots(self):
        check_given(self, InvalidLot, (lambda lot: kept(EVEN, lot), lambda lot: kept(lot=lot, walk=EVEN)),
                    NO_LOTS + ODD_VALUES)
        check_raises(self, InvalidLot, {"given": (0, 3)}, lambda: kept(SPIN, (0, 3)))
        check_raises(self, InvalidLot, {"given": (1,)}, lambda: kept(ALONE, (1,)))

    def test_two_wrong_arguments(self):
        for lot in (None, (), (0, 2), [0], (7,)):
            check_raises(self, InvalidWalk, {"given": ()}, lambda: kept((), lot))
            check_raises(self, InvalidWalk, {"given": ()}, lambda: kept(lot=lot, walk=()))


class FittedTest(unittest.TestCase):

    def test_chances(self):
        source, whole = random.Random(4), {True: 0, False: 0}
        for walk in WALKS:
            for shares in [shares_of(walk)] + [random_shares(len(walk), source) for _ in range(3)]:
                rows = fitted_by_hand(walk, shares)
                whole[joined(rows)] += 1
                if not joined(rows):
                    check_raises(self, NotWhole, {}, lambda: fitted(walk, shares))
                    continue
                told = fitted(walk, shares)
                self.assertTrue(is_told_table(told, len(walk)))
                self.assertEqual(told, told_rows(rows))
                self.assertEqual([is_walk(told), is_alike(told), shares_of(told)], [True, True, shares])
                self.assertEqual(fitted(told, shares), told)
        self.assertGreater(min(whole.values()), 20)

    def test_to_its_own_shares(self):
        for walk in WALKS:
            if is_alike(walk):
                self.assertEqual(fitted(walk, shares_of(walk)), walk)

    def test_no_walk_that_is_so_goes_more(self):
        source, compared = random.Random(6), 0
        for walk in WALKS:
            shares = random_shares(len(walk), source)
            if len(walk) == 1 or not joined(fitted_by_hand(walk, shares)):
                continue
            fit, table, weights = exact(fitted(walk, shares)), exact(walk), exact(shares)
            pairs = [(i, j) for i, j in product(range(len(walk)), repeat=2) if i != j]
            for _ in range(30):
                # Flows alike both ways, often as much as the walk's own step goes.
                flows = {}
                for i, j in pairs:
                    if i < j:
                        most = source.choice((weights[i] * table[i][j], weights[j] * table[j][i]))
                        flows[i, j] = flows[j, i] = most * source.choice((1, 1, Fraction(1, 2)))
                if all(flows[i, j] / weights[i] <= table[i][j] for i, j in pairs):
                    compared += 1
                    self.assertTrue(all(flows[i, j] / weights[i] <= fit[i][j] for i, j in pairs))
                for i, j in pairs:
                    above = max(flows[i, j] / weights[i] - table[i][j], flows[j, i] / weights[j] - table[j][i])
                    self.assertTrue(above > 0 or flows[i, j] / weights[i] <= fit[i][j])
        self.assertGreater(compared, 40)

    def test_few_places(self):
        self.assertEqual([fitted(ALONE, (ONE,)), fitted(SWAP, (HALF, HALF))], [ALONE, SWAP])
        self.assertEqual(fitted(SWAP, (THIRD, MORE)), ((NIL, ONE), (HALF, HALF)))
        self.assertEqual(fitted(((HALF, HALF), (HALF, HALF)), (THIRD, MORE)), ((HALF, HALF), ((1, 4), (3, 4))))
        self.assertEqual(fitted(walk=SPIN, shares=THIRDS), (THIRDS, THIRDS, THIRDS))
        self.assertEqual(fitted(shares=THIRDS, walk=backward(SPIN)), (THIRDS, THIRDS, THIRDS))

    def test_not_whole(self):
        check_raises(self, NotWhole, {}, lambda: fitted(WHEEL, THIRDS))
        check_raises(self, NotWhole, {}, lambda: fitted(shares=THIRDS, walk=WHEEL))
        # Both ways between 0 and 1 alone.
        walk = ((NIL, HALF, HALF), (ONE, NIL, NIL), (NIL, ONE, NIL))
        check_raises(self, NotWhole, {}, lambda: fitted(walk, THIRDS))
        self.assertNotEqual(backward(walk), walk)

    def test_no_shares(self):
        for index, values in NO_SHARES:
            for value in values:
                for walk in (SPIN, WHEEL):
                    check_raises(self, InvalidShares, {"index": index}, lambda: fitted(walk, value))
                    check_raises(self, InvalidShares, {"index": index}, lambda: fitted(shares=value, walk=walk))
        for value in ODD_VALUES:
            if not isinstance(value, tuple) or len(value) != 6:
                check_raises(self, InvalidShares, {"index": None}, lambda: fitted(EVEN, value))
        check_raises(self, InvalidShares, {"index": 0}, lambda: fitted(ALONE, ((0, 1),)))
        check_raises(self, InvalidShares, {"index": None}, lambda: fitted(ALONE, (HALF,)))

    def test_two_wrong_arguments(self):
        for shares in (None, (), (NIL, NIL, NIL), (ONE, ONE, ONE), THIRDS):
            check_raises(self, InvalidWalk, {"given": ()}, lambda: fitted((), shares))
            check_raises(self, InvalidWalk, {"given": ()}, lambda: fitted(shares=shares, walk=()))

    def test_large_numbers(self):
        walk = large_walk(6)
        told = fitted(walk, shares_of(walk))
        self.assertEqual([is_walk(told), is_alike(told), shares_of(told)], [True, True, shares_of(walk)])


class WrongWalksTest(unittest.TestCase):

    def test_no_walk(self):
        wrong = [(), ((HALF,),), ((ONE, NIL), (HALF, HALF)), ((NIL, ONE, ONE), (ONE, NIL, ONE), (ONE, ONE, NIL)),
                 [list(row) for row in SPIN], (SPIN[0], SPIN[1], list(SPIN[2])), SPIN[:2], (((True, 1),),)]
        calls = (lambda walk: kept(walk, (0,)), lambda walk: fitted(walk, (ONE,)))
        check_given(self, InvalidWalk, calls, wrong + ODD_VALUES)


if __name__ == "__main__":
    unittest.main()
