"""Walks watched at a lot of places, what remains of weights there, and weights that are alike at places."""

import random
import unittest
from fractions import Fraction
from itertools import combinations, permutations, product

from backwalks.apart import apart
from backwalks.backward import backward, is_alike
from backwalks.errors import InvalidLot, InvalidPlaces, InvalidWalk, InvalidWeights
from backwalks.walks import is_walk, shares_of
from backwalks.watched import are_alike_at, parted_at, remains, watched_at
from backwalks.weights import is_weights, walk_of
from tests.helpers import (ALONE, HALF, LEAN, LINE, NIL, ODD_VALUES, ONE, SPIN, SWAP, THIRD, WHEEL, Odd, check_given,
                           check_raises, cycle_walk, exact, is_told_table, large_walk, many_walks, nested, pair,
                           walk_of_rows)
from tests.nets import (BOTH, LET_TIES, LOOP, NO_WEIGHTS, RING, STAR, TIE, TWO, large_weights, many_weights,
                        solve_by_hand, some_weights, weights_of_rows)

WALKS = many_walks()
WEIGHTS = many_weights()
NO_WALKS = [(), ((HALF,),), ((ONE, NIL), (HALF, HALF)), RING, [list(row) for row in SPIN], SPIN[:2], (((True, 1),),),
            (SPIN[0], SPIN[1], list(SPIN[2]))]
NO_LOTS = [(), (3,), (-1,), (0, 3), (1, 0), (0, 0), (0, 1, 2, 3), (True,), (False, 1), ("0",), (None,), (0, (1,)),
           [0, 1], [0], {0, 1}, {0: 1}, range(2), "01", b"\x00\x01", 0, 1, nested(20), (0, nested(19)), (Odd(),),
           (0, {1}), (0, Fraction(1)), (0, [1]), None, True, (0, 2, 1)]


def lots_of(many):
    return [lot for length in range(1, many + 1) for lot in combinations(range(many), length)]


def watched_by_hand(walk, lot):
    """From each place of the lot to each, straight or by way of others: their chances of coming there first, solved."""
    table = exact(walk)
    others = [place for place in range(len(walk)) if place not in lot]
    square = [[(i == j) - table[i][j] for j in others] for i in others]
    rows = [[] for _ in lot]
    for there in lot:
        coming = solve_by_hand(square, [table[place][there] for place in others])
        for at, here in enumerate(lot):
            by_others = sum(table[here][place] * chance for place, chance in zip(others, coming))
            rows[at].append(pair(table[here][there] + by_others))
    return tuple(tuple(row) for row in rows)


def seen_by_steps(walk, lot, here, steps):
    """The chances with which the walk from here is back at each place of the lot by so many steps, and at none yet."""
    table, places = exact(walk), range(len(walk))
    standing = {place: Fraction(place == here) for place in places}
    came = {place: Fraction(0) for place in lot}
    for _ in range(steps):
        went = {there: sum(standing[place] * table[place][there] for place in places) for there in places}
        for place in lot:
            came[place] += went[place]
        standing = {place: went[place] if place not in lot else Fraction(0) for place in places}
    return came, sum(standing.values())


def going_out_by_hand(weights, row):
    """What goes out at each place of the row, with the height 1 at one of them and 0 at the others: a column each."""
    table, columns = exact(weights), []
    places = range(len(weights))
    for high in row:
        # Heights put at the row; at each other place the weights' mean of the heights around.
        square = [[(i == j) * (1 if i in row else sum(table[i])) - (0 if i in row else table[i][j]) for j in places]
                  for i in places]
        heights = solve_by_hand(square, [Fraction(i == high) for i in places])
        columns.append([sum(table[i][j] * (heights[i] - heights[j]) for j in places) for i in row])
    return columns


def in_place_of_star(arms):
    """The ring of three that goes in the place of a star with these arms."""
    one, two, three = arms
    in_all = one + two + three
    return [[0, one * two / in_all, one * three / in_all], [one * two / in_all, 0, two * three / in_all],
            [one * three / in_all, two * three / in_all, 0]]


def told_table(rows):
    return tuple(tuple(pair(Fraction(number)) for number in row) for row in rows)


class WatchedTest(unittest.TestCase):

    def test_all_lots(self):
        for walk in WALKS + [large_walk(3)]:
            for lot in lots_of(len(walk)):
                told = watched_at(walk, lot)
                self.assertTrue(is_told_table(told, len(lot)))
                self.assertEqual(told, watched_by_hand(walk, lot))
                self.assertIs(is_walk(told), True)

    def test_all_ways_through_the_places_left_out(self):
        for walk in WALKS[::4]:
            for lot in lots_of(len(walk))[:12]:
                told = exact(watched_at(walk, lot))
                for at, here in enumerate(lot):
                    came, rest = seen_by_steps(walk, lot, here, 12)
                    for to, there in enumerate(lot):
                        self.assertLessEqual(came[there], told[at][to])
                        self.assertLessEqual(told[at][to], came[there] + rest)

    def test_shares_over_their_sum(self):
        for walk in WALKS:
            shares = exact(shares_of(walk))
            for lot in lots_of(len(walk)):
                in_all = sum(shares[place] for place in lot)
                self.assertEqual(shares_of(watched_at(walk, lot)), tuple(pair(shares[place] / in_all) for place in lot))

    def test_alike_backwards_if_the_walk_is(self):
        for walk in WALKS:
            for lot in lots_of(len(walk))[::2]:
                told = watched_at(walk, lot)
                self.assertEqual(watched_at(backward(walk), lot), backward(told))
                if is_alike(walk):
                    self.assertIs(is_alike(told), True)
        # Of others it may be so or not.
        walk = walk_of_rows([[0, 3, 1, 1], [1, 0, 3, 1], [3, 1, 0, 1], [1, 1, 1, 0]])
        self.assertEqual([is_alike(watched_at(walk, lot)) for lot in ((0, 1, 2), (0, 1))], [False, True])

    def test_in_any_order(self):
        for walk in WALKS[::5] + [WHEEL]:
            for lot in lots_of(len(walk)):
                others = [place for place in range(len(walk)) if place not in lot]
                for order in list(permutations(others))[:8]:
                    self.assertEqual(left_one_by_one(watched_at, walk, order), watched_at(walk, lot))

    def test_all_places_and_one_place(self):
        for walk in WALKS:
            self.assertEqual(watched_at(walk, tuple(range(len(walk)))), walk)
            for place in range(len(walk)):
                self.assertEqual(watched_at(walk, (place,)), ALONE)

    def test_left_only_by_way_of_itself_and_others(self):
        # Place 2 mostly stays, and is come to and left by way of place 1 alone.
        walk = ((HALF, HALF, NIL), (THIRD, NIL, (2, 3)), (NIL, (1, 10), (9, 10)))
        self.assertEqual(watched_at(walk, (0, 1)), ((HALF, HALF), (THIRD, (2, 3))))
        self.assertEqual(watched_at(walk, (0, 2)), (((2, 3), THIRD), ((1, 30), (29, 30))))
        around = cycle_walk(6, Fraction(1, 10), Fraction(0))
        self.assertEqual(watched_at(around, (1, 4)), (((9, 10), (1, 10)), ((1, 10), (9, 10))))

    def test_few_places(self):
        self.assertEqual([watched_at(ALONE, (0,)), watched_at(SWAP, (1,)), watched_at(LEAN, (0, 1))],
                         [ALONE, ALONE, LEAN])
        self.assertEqual([watched_at(walk=WHEEL, lot=(0, 1)), watched_at(lot=(0, 2), walk=WHEEL)], [SWAP, SWAP])
        self.assertEqual(watched_at(LINE, (0, 1)), ((NIL, ONE), (THIRD, (2, 3))))

    def test_wrong_arguments(self):
        calls = (lambda lot: watched_at(SPIN, lot), lambda lot: watched_at(lot=lot, walk=SPIN))
        check_given(self, InvalidLot, calls, NO_LOTS + ODD_VALUES)
        check_raises(self, InvalidLot, {"given": (1,)}, lambda: watched_at(ALONE, (1,)))
        for lot in ((0,), None, (7,)):
            calls = (lambda walk: watched_at(walk, lot), lambda walk: watched_at(lot=lot, walk=walk))
            check_given(self, InvalidWalk, calls, NO_WALKS + ODD_VALUES)


def left_one_by_one(leave, table, order):
    """The table with these places left out one by one, in this order."""
    places = list(range(len(table)))
    for place in order:
        kept = [at for at, each in enumerate(places) if each != place]
        table, places = leave(table, tuple(kept)), [each for each in places if each != place]
    return table


class RemainsTest(unittest.TestCase):

    def test_one_place_left_out(self):
        for weights in WEIGHTS:
            table = exact(weights)
            for place in range(len(weights)):
                others = [each for each in range(len(weights)) if each != place]
                if others:
                    away = sum(table[place][each] for each in others)
                    rows = [[table[i][j] + table[i][place] * table[place][j] / away for j in others] for i in others]
                    self.assertEqual(remains(weights, tuple(others)), told_table(rows))

    def test_weights_whose_walk_is_the_watched_one(self):
        for weights in WEIGHTS + [large_weights(4)]:
            for lot in lots_of(len(weights)):
                told = remains(weights, lot)
                self.assertTrue(is_told_table(told, len(lot)))
                self.assertIs(is_weights(told), True)
                self.assertEqual(walk_of(told), watched_at(walk_of(weights), lot))

    def test_each_row_has_the_sum_that_it_had(self):
        for weights in WEIGHTS:
            sums = [sum(row) for row in exact(weights)]
            for lot in lots_of(len(weights)):
                self.assertEqual([sum(row) for row in exact(remains(weights, lot))], [sums[place] for place in lot])

    def test_apart_as_before(self):
        for weights in WEIGHTS[::2]:
            for lot in lots_of(len(weights)):
                told = remains(weights, lot)
                for (at, here), (to, there) in combinations(enumerate(lot), 2):
                    self.assertEqual(apart(told, at, to), apart(weights, here, there))

    def test_in_any_order(self):
        for weights in WEIGHTS[::3]:
            for lot in lots_of(len(weights)):
                others = [place for place in range(len(weights)) if place not in lot]
                for order in list(permutations(others))[:8]:
                    self.assertEqual(left_one_by_one(remains, weights, order), remains(weights, lot))

    def test_few_places(self):
        self.assertEqual([remains(LOOP, (0,)), remains(TIE, (0,)), remains(BOTH, (0,)), remains(BOTH, (1,))],
                         [LOOP, ((HALF,),), (((4, 3),),), ((THIRD,),)])
        self.assertEqual(remains(weights=RING, lot=(0, 1)), ((HALF, (3, 2)), ((3, 2), HALF)))
        self.assertEqual(remains(lot=(0, 1, 2), weights=STAR), ((ONE,) * 3,) * 3)
        for weights in WEIGHTS:
            self.assertEqual(remains(weights, tuple(range(len(weights)))), weights)

    def test_wrong_arguments(self):
        calls = (lambda lot: remains(RING, lot), lambda lot: remains(lot=lot, weights=RING))
        check_given(self, InvalidLot, calls, NO_LOTS + ODD_VALUES)
        for lot in ((0,), None, (7,)):
            calls = (lambda weights: remains(weights, lot), lambda weights: remains(lot=lot, weights=weights))
            check_given(self, InvalidWeights, calls, NO_WEIGHTS + ODD_VALUES + [SPIN])


class AlikeAtTest(unittest.TestCase):

    def check_pair(self, weights, lot, other, row):
        """Hold what is told against what goes out by hand, against what remains, and against all that are apart."""
        alike, parted = are_alike_at(weights, lot, other, row), parted_at(weights, lot, other, row)
        self.assertIs(alike, going_out_by_hand(weights, lot) == going_out_by_hand(other, row))
        apart_by = [(at, to) for at, to in combinations(range(len(lot)), 2)
                    if apart(weights, lot[at], lot[to]) != apart(other, row[at], row[to])]
        self.assertEqual(parted, (apart_by + [None])[0])
        self.assertIs(alike, parted is None)
        rest, order = remains(weights, lot), sorted(row)
        opposed = remains(other, tuple(order))
        places = [order.index(place) for place in row]
        self.assertIs(alike, all(rest[at][to] == opposed[places[at]][places[to]]
                                 for at, to in combinations(range(len(lot)), 2)))
        return alike

    def test_what_remains_of_them(self):
        source, told = random.Random(31), {True: 0, False: 0}
        for weights in WEIGHTS:
            for lot in lots_of(len(weights))[::2]:
                order = list(range(len(lot)))
                source.shuffle(order)
                rest = remains(weights, lot)
                # The same weights, counted otherwise, without loops, and at times one of them a little more.
                rows = [[NIL if i == j else rest[order[i]][order[j]] for j in range(len(lot))] for i in range(len(lot))]
                if len(lot) == 1:
                    rows = [[ONE]]
                if source.random() < 0.4 and len(lot) > 1:
                    i, j = source.sample(range(len(lot)), 2)
                    rows[i][j] = rows[j][i] = pair(exact(rows[i][j]) + Fraction(1, 7))
                other = tuple(tuple(row) for row in rows)
                row = tuple(order.index(at) for at in range(len(lot)))
                told[self.check_pair(weights, lot, other, row)] += 1
        self.assertGreater(min(told.values()), 40)

    def test_some_pairs(self):
        source, found = random.Random(32), some_weights(5, 41)
        for _ in range(150):
            weights, other = source.choice(found), source.choice(found)
            size = source.randint(1, min(len(weights), len(other)))
            lot = tuple(sorted(source.sample(range(len(weights)), size)))
            row = tuple(source.sample(range(len(other)), size))
            self.check_pair(weights, lot, other, row)

    def test_a_star_in_the_place_of_a_ring_of_three(self):
        source = random.Random(33)
        for _ in range(20):
            arms = [Fraction(source.randint(1, 9), source.randint(1, 4)) for _ in range(3)]
            star = told_table([[0, 0, 0, arms[0]], [0, 0, 0, arms[1]], [0, 0, 0, arms[2]], [*arms, 5]])
            ring = told_table(in_place_of_star(arms))
            self.assertIs(self.check_pair(ring, (0, 1, 2), star, (0, 1, 2)), True)
            self.assertIs(self.check_pair(star, (0, 1, 2), ring, (0, 1, 2)), True)
            for row in permutations(range(3)):
                self.assertIs(self.check_pair(ring, (0, 1, 2), star, row),
                              [arms[place] for place in row] == arms)

    def test_the_first_pair_in_order(self):
        line = weights_of_rows([[0, 1, 0, 0], [1, 0, 1, 0], [0, 1, 0, 1], [0, 0, 1, 0]])
        for at, expected in ((0, (0, 1)), (1, (0, 2)), (2, (0, 3))):
            rows = [list(row) for row in line]
            rows[at][at + 1] = rows[at + 1][at] = TWO
            other = tuple(tuple(row) for row in rows)
            self.assertEqual(parted_at(line, (0, 1, 2, 3), other, (0, 1, 2, 3)), expected)
            self.assertEqual(parted_at(other, (0, 1, 2, 3), line, (0, 1, 2, 3)), expected)
        # The same line, its places told in other orders.
        self.assertEqual(parted_at(line, (1, 2, 3), line, (2, 1, 3)), (0, 2))
        self.assertEqual(parted_at(line, (1, 2, 3), line, (1, 2, 0)), (0, 2))
        self.assertEqual(parted_at(line, (1, 2, 3), line, (1, 3, 2)), (0, 1))
        # Two arms of 1 from the first place, and a ring in which all are apart by 1.
        self.assertEqual(parted_at(weights_of_rows([[0, 1, 1], [1, 0, 0], [1, 0, 0]]), (0, 1, 2),
                                   weights_of_rows([[0, 2, 2], [2, 0, 2], [2, 2, 0]], 3), (2, 0, 1)), (1, 2))

    def test_one_place(self):
        for weights in WEIGHTS[::8]:
            for other in WEIGHTS[::9]:
                for here, there in product(range(len(weights)), range(len(other))):
                    self.assertEqual([are_alike_at(weights, (here,), other, (there,)),
                                      parted_at(weights, (here,), other, (there,))], [True, None])

    def test_by_name(self):
        self.assertIs(are_alike_at(weights=RING, lot=(0, 1, 2), other=STAR, row=(2, 0, 1)), True)
        self.assertIs(are_alike_at(row=(2, 0), other=STAR, lot=(0, 2), weights=RING), True)
        self.assertEqual(parted_at(row=(0, 3), other=STAR, lot=(0, 1), weights=RING), (0, 1))
        self.assertIsNone(parted_at(weights=LET_TIES, lot=(0, 5), other=LET_TIES, row=(4, 1)))

    def test_wrong_arguments(self):
        none = [None, [0, 1], (), (0,), (0, 1, 2), {0: 1, 1: 2}, {0, 1}, "01", b"\x00\x01", 0, True, range(2), Odd()]
        first = [(4, 0), (-1, 0), (None, 0), ("0", 1), (True, 0), ((0,), 1), ([0], 1), (nested(19), 0), (4, 4),
                 (Odd(), 1), ({0}, {1}), (Fraction(0), 1)]
        later = [(0, 4), (0, 0), (3, 3), (1, True), (1, False), (2, None), (2, -1), (2, "1"), (2, (1,)), (2, {1})]
        for call in (are_alike_at, parted_at):
            for index, values in ((None, none), (0, first), (1, later)):
                for value in values:
                    check_raises(self, InvalidPlaces, {"index": index}, lambda: call(RING, (0, 2), STAR, value))
                    check_raises(self, InvalidPlaces, {"index": index},
                                 lambda: call(row=value, other=STAR, lot=(0, 2), weights=RING))
            check_raises(self, InvalidPlaces, {"index": 2}, lambda: call(RING, (0, 1, 2), STAR, (3, 1, 3)))
            check_raises(self, InvalidPlaces, {"index": 0}, lambda: call(STAR, (3,), RING, (3,)))

    def test_wrong_arguments_in_order(self):
        for call in (are_alike_at, parted_at):
            calls = (lambda value: call(value, (0,), RING, (0,)), lambda value: call(value, None, None, None),
                     lambda value: call(RING, (0,), value, (0,)),
                     lambda value: call(row=None, other=value, lot=(0,), weights=RING))
            check_given(self, InvalidWeights, calls, NO_WEIGHTS + ODD_VALUES + [SPIN])
            calls = (lambda lot: call(RING, lot, STAR, (0,)), lambda lot: call(RING, lot, None, None))
            check_given(self, InvalidLot, calls, NO_LOTS + ODD_VALUES)
            # Places of the one weights are no places of the other ones.
            check_raises(self, InvalidLot, {"given": (0, 3)}, lambda: call(RING, (0, 3), STAR, (0, 3)))
            check_raises(self, InvalidPlaces, {"index": 1}, lambda: call(STAR, (0, 3), RING, (0, 3)))


if __name__ == "__main__":
    unittest.main()
