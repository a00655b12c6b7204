"""Apart: heights, flows, their costs, more weight, and apart tables."""

import random
import unittest
from fractions import Fraction
from itertools import product

from backwalks.apart import (apart, apart_table, flow_cost, flow_of, height_cost, heights_of, in_all, is_flow,
                             there_and_back, weights_for, with_more)
from backwalks.errors import InvalidFlow, InvalidNumber, InvalidRow, InvalidTable, InvalidWeights
from backwalks.weights import is_weights, walk_of
from tests.helpers import (HALF, MORE, NIL, ODD_VALUES, ONE, SPIN, THIRD, Odd, check_given, check_raises, exact,
                           is_told_fraction, is_told_row, is_told_table, nested, pair)
from tests.nets import (ALL_TIES, BARS, BOTH, LOOP, NO_WEIGHTS, RING, STAR, TIE, TWO, apart_by_hand, is_net,
                        joined_without, large_weights, many_weights, parts_by_hand, solve_by_hand, some_weights,
                        ties_by_hand, unlike_pairs)

WEIGHTS = many_weights()
MINUS = (-1, 1)
STRAIGHT = ((NIL, ONE, NIL), (MINUS, NIL, NIL), (NIL, NIL, NIL))
ALL_ENDS = [None, True, False, -1, 3, 7, 10 ** 50, "0", b"\x00", (0,), [0], {0}, {0: 1}, (0, 1), Fraction(1), Odd(),
            nested(20), range(1), 1j]


def told_table(rows):
    return tuple(tuple(pair(number) for number in row) for row in rows)


def cost_by_hand(weights, flow):
    """The cost of a flow of Fractions."""
    return sum(flow[i][j] ** 2 / exact(weights[i][j]) for i, j in ties_by_hand(weights))


def height_cost_by_hand(weights, heights):
    return sum(exact(weights[i][j]) * (heights[i] - heights[j]) ** 2 for i, j in ties_by_hand(weights))


def tree_paths(weights, one, two):
    """All ways by ties from the one place to the other one, no place twice."""
    ties, ways, waiting = ties_by_hand(weights), [], [(one,)]
    while waiting:
        way = waiting.pop()
        if way[-1] == two:
            ways.append(way)
            continue
        for j in range(len(weights)):
            if j not in way and (min(way[-1], j), max(way[-1], j)) in ties:
                waiting.append(way + (j,))
    return sorted(ways)


def flow_along(many, way):
    """A flow that goes along one way alone."""
    flow = [[Fraction(0)] * many for _ in range(many)]
    for i, j in zip(way, way[1:]):
        flow[i][j] += 1
        flow[j][i] -= 1
    return flow


def mixed_flow(weights, one, two, source):
    """Some flow: of ways from the one to the other, with any parts, together 1."""
    ways = tree_paths(weights, one, two)
    parts = [Fraction(source.randint(-3, 5)) for _ in ways]
    parts[0] += 1 - sum(parts)
    flow = [[Fraction(0)] * len(weights) for _ in weights]
    for way, part in zip(ways, parts):
        along = flow_along(len(weights), way)
        flow = [[a + part * b for a, b in zip(*rows)] for rows in zip(flow, along)]
    return flow


class HeightsTest(unittest.TestCase):

    def test_they_drive_a_flow(self):
        for weights in WEIGHTS:
            table = exact(weights)
            for one, two in unlike_pairs(weights):
                told = heights_of(weights, one, two)
                self.assertTrue(is_told_row(told, len(weights)))
                heights = exact(told)
                self.assertEqual(heights[two], 0)
                going = [sum(table[i][j] * (heights[i] - heights[j]) for j in range(len(table)))
                         for i in range(len(table))]
                self.assertEqual(going, [(i == one) - (i == two) for i in range(len(table))])

    def test_over_the_height_of_the_first_they_are_chances(self):
        for weights in WEIGHTS:
            walk = exact(walk_of(weights))
            for one, two in unlike_pairs(weights):
                heights = exact(heights_of(weights, one, two))
                chances = [height / heights[one] for height in heights]
                # How likely the walk from each place is at the one before it is at the other: the mean of the next.
                places = range(len(walk))
                rows = [[(i == j) - (0 if i in (one, two) else walk[i][j]) for j in places] for i in places]
                self.assertEqual(solve_by_hand(rows, [Fraction(i == one) for i in places]), chances)

    def test_few_places(self):
        self.assertEqual([heights_of(TIE, 0, 1), heights_of(TIE, 1, 0)], [(TWO, NIL), (NIL, TWO)])
        self.assertEqual(heights_of(BOTH, 0, 1), ((3, 1), NIL))
        self.assertEqual(heights_of(BARS, 2, 0), (NIL, ONE, (3, 2)))
        self.assertEqual(heights_of(weights=RING, one=0, two=1), (MORE, NIL, THIRD))
        self.assertEqual(heights_of(two=1, one=0, weights=RING), (MORE, NIL, THIRD))

    def test_large_numbers(self):
        weights = large_weights(6)
        table, heights = exact(weights), exact(heights_of(weights, 4, 2))
        going = [sum(table[i][j] * (heights[i] - heights[j]) for j in range(6)) for i in range(6)]
        self.assertEqual(going, [0, 0, -1, 0, 1, 0])
        self.assertIs(is_flow(weights, 4, 2, flow_of(weights, 4, 2)), True)


class FlowTest(unittest.TestCase):

    def test_driven_by_the_heights(self):
        for weights in WEIGHTS:
            table, places = exact(weights), range(len(weights))
            for one, two in unlike_pairs(weights):
                told, heights = flow_of(weights, one, two), exact(heights_of(weights, one, two))
                self.assertTrue(is_told_table(told, len(weights)))
                self.assertEqual(exact(told), [[table[i][j] * (heights[i] - heights[j]) for j in places]
                                               for i in places])
                self.assertIs(is_flow(weights, one, two, told), True)

    def test_the_other_way(self):
        for weights in WEIGHTS:
            for one, two in unlike_pairs(weights):
                flow = exact(flow_of(weights, one, two))
                self.assertEqual(exact(flow_of(weights, two, one)), [[-number for number in row] for row in flow])

    def test_few_places(self):
        self.assertEqual([flow_of(TIE, 0, 1), flow_of(BOTH, 1, 0)],
                         [((NIL, ONE), (MINUS, NIL)), ((NIL, MINUS), (ONE, NIL))])
        self.assertEqual(flow_of(weights=RING, one=0, two=1)[0], (NIL, MORE, THIRD))
        self.assertEqual(flow_of(one=0, two=2, weights=BARS), ((NIL, ONE, NIL), (MINUS, NIL, ONE), (NIL, MINUS, NIL)))


class IsFlowTest(unittest.TestCase):

    def test_flows(self):
        source = random.Random(12)
        for weights in WEIGHTS:
            for one, two in unlike_pairs(weights):
                flow = told_table(mixed_flow(weights, one, two, source))
                self.assertIs(is_flow(weights, one, two, flow), True)
                self.assertIs(is_flow(weights, two, one, flow), False)
                for other in range(len(weights)):
                    if other not in (one, two):
                        self.assertIs(is_flow(weights, one, other, flow), False)
                        self.assertIs(is_flow(weights, other, two, flow), False)

    def test_each_number_counts(self):
        source = random.Random(13)
        for weights in [BARS, RING, STAR, ALL_TIES] + WEIGHTS[::5]:
            for one, two in unlike_pairs(weights)[:4]:
                flow = told_table(mixed_flow(weights, one, two, source))
                for i, j in product(range(len(weights)), repeat=2):
                    rows = [list(row) for row in flow]
                    for number in (pair(exact(flow[i][j]) + 1), (7, 11), None, True, list(flow[i][j]), (2, 2)):
                        rows[i][j] = number
                        self.assertIs(is_flow(weights, one, two, tuple(tuple(row) for row in rows)), False)

    def test_only_by_ties(self):
        # Round 0, 1, 2, though 0 and 2 have no tie.
        bent = ((NIL, HALF, HALF), ((-1, 2), NIL, (1, 2)), ((-1, 2), (-1, 2), NIL))
        self.assertEqual([is_flow(BARS, 0, 2, bent), is_flow(RING, 0, 2, bent)], [False, True])
        # By a loop, though it is there.
        loop = ((NIL, ONE), (MINUS, ONE))
        self.assertIs(is_flow(((NIL, ONE), (ONE, ONE)), 0, 1, loop), False)
        self.assertIs(is_flow(((NIL, ONE), (ONE, ONE)), 0, 1, loop[:1] + ((MINUS, NIL),)), True)

    def test_each_way_the_opposite_of_the_way_back(self):
        # The rows' sums alone do not make a flow.
        uneven = [((NIL, ONE, NIL), (NIL, NIL, MINUS), (NIL,) * 3), ((NIL, NIL, ONE), (NIL, NIL, MINUS), (NIL,) * 3),
                  ((NIL, ONE, NIL), (MINUS, NIL, NIL), (ONE, MINUS, NIL)),
                  ((NIL, HALF, HALF), (MINUS, NIL, NIL), (NIL,) * 3)]
        for value in uneven:
            self.assertIs(is_flow(RING, 0, 1, value), False)
            check_raises(self, InvalidFlow, {"given": value}, lambda: flow_cost(RING, 0, 1, value))
        loops = ((ONE, ONE), (ONE, ONE))
        self.assertIs(is_flow(loops, 0, 1, ((ONE, NIL), (NIL, MINUS))), False)
        self.assertIs(is_flow(loops, 0, 1, ((NIL, ONE), (MINUS, NIL))), True)

    def test_no_flows(self):
        wrong = [
            (), STRAIGHT[:2], STRAIGHT + STRAIGHT[:1], tuple(row[:2] for row in STRAIGHT),
            [list(row) for row in STRAIGHT], list(STRAIGHT), STRAIGHT[:2] + (list(STRAIGHT[2]),), ((NIL,) * 3,) * 3,
            STRAIGHT[::-1], STRAIGHT[:2] + ((NIL, NIL, (0, 2)),), STRAIGHT[:2] + ((NIL, NIL, 0),),
            ((NIL, ONE, NIL), (ONE, NIL, NIL), (NIL,) * 3), ((NIL, ONE, NIL), (NIL,) * 3, (NIL,) * 3),
            ((NIL, TWO, NIL), ((-2, 1), NIL, NIL), (NIL,) * 3), ((NIL, (2, 2), NIL), (MINUS, NIL, NIL), (NIL,) * 3),
            ((NIL, MINUS, NIL), (ONE, NIL, NIL), (NIL, NIL, NIL)), ((NIL, 1, NIL), (-1, NIL, NIL), (NIL, NIL, NIL)),
            ((NIL, ONE, NIL), ((1, -1), NIL, NIL), (NIL, NIL, NIL)), ((NIL, True, NIL), (MINUS, NIL, NIL), (NIL,) * 3),
            ((ONE, NIL, NIL), (NIL, MINUS, NIL), (NIL, NIL, NIL)), (None, None, None), ("abc",) * 3,
            ({0: 1}, {0: 1}, {0: 1}), ([], [], []), ((NIL, ONE, [0, 1]), (MINUS, NIL, NIL), (NIL,) * 3),
            ((NIL, ONE, NIL, NIL), (MINUS, NIL, NIL, NIL), (NIL,) * 4), (STRAIGHT,), (nested(19),) * 3,
        ]
        for value in wrong + ODD_VALUES:
            self.assertIs(is_flow(RING, 0, 1, value), False, value)
        calls = (lambda value: flow_cost(RING, 0, 1, value),
                 lambda value: flow_cost(flow=value, two=1, one=0, weights=RING))
        check_given(self, InvalidFlow, calls, wrong + ODD_VALUES)
        check_raises(self, InvalidFlow, {"given": STRAIGHT}, lambda: flow_cost(RING, 1, 0, STRAIGHT))

    def test_by_name(self):
        self.assertIs(is_flow(weights=RING, one=0, two=1, value=STRAIGHT), True)
        self.assertIs(is_flow(value=STRAIGHT, two=0, one=1, weights=RING), False)


class ApartTest(unittest.TestCase):

    def test_by_all_trees(self):
        for weights in WEIGHTS:
            for one, two in product(range(len(weights)), repeat=2):
                told = apart(weights, one, two)
                self.assertTrue(is_told_fraction(told))
                if one <= two:
                    self.assertEqual(told, pair(apart_by_hand(weights, one, two)))

    def test_the_height_of_the_first(self):
        for weights in WEIGHTS:
            for one, two in unlike_pairs(weights):
                self.assertEqual(apart(weights, one, two), heights_of(weights, one, two)[one])

    def test_a_distance(self):
        met = {True: 0, False: 0}
        for weights in WEIGHTS:
            many = range(len(weights))
            table = [[exact(apart(weights, i, j)) for j in many] for i in many]
            for i, j in product(many, repeat=2):
                self.assertEqual(table[i][j], table[j][i])
                self.assertIs(table[i][j] > 0, i != j)
            for i, j, k in product(many, repeat=3):
                if len({i, j, k}) == 3:
                    self.assertLessEqual(table[i][k], table[i][j] + table[j][k])
                    equal = table[i][k] == table[i][j] + table[j][k]
                    self.assertIs(equal, not joined_without(weights, j, i, k))
                    met[equal] += 1
        self.assertGreater(min(met.values()), 100)

    def test_a_place_and_itself(self):
        for weights in WEIGHTS:
            for place in range(len(weights)):
                self.assertEqual(apart(weights, place, place), NIL)
        self.assertEqual([apart(LOOP, 0, 0), apart(large_weights(6), 5, 5)], [NIL, NIL])

    def test_few_places(self):
        self.assertEqual([apart(TIE, 0, 1), apart(TIE, 1, 0), apart(BOTH, 0, 1)], [TWO, TWO, (3, 1)])
        self.assertEqual([apart(BARS, 0, 2), apart(ALL_TIES, 5, 3), apart(STAR, 0, 1)], [(3, 2), THIRD, MORE])
        self.assertEqual([apart(weights=RING, one=0, two=1), apart(two=2, one=1, weights=RING)], [MORE, MORE])

    def test_the_sum_over_the_ties(self):
        for weights in WEIGHTS + [large_weights(6)]:
            found = sum(exact(weights[i][j]) * exact(apart(weights, i, j)) for i, j in ties_by_hand(weights))
            self.assertEqual(found, len(weights) - 1)


class CostsTest(unittest.TestCase):

    def test_of_flows(self):
        source = random.Random(14)
        for weights in WEIGHTS:
            for one, two in unlike_pairs(weights):
                least = apart_by_hand(weights, one, two) if one < two else exact(apart(weights, two, one))
                driven = flow_of(weights, one, two)
                self.assertEqual(flow_cost(weights, one, two, driven), pair(least))
                flow = mixed_flow(weights, one, two, source)
                told = flow_cost(weights, one, two, told_table(flow))
                self.assertEqual(told, pair(cost_by_hand(weights, flow)))
                if told_table(flow) != driven:
                    self.assertGreater(exact(told), least)

    def test_a_little_beside_the_driven_flow_costs_more(self):
        for weights in [RING, ALL_TIES] + WEIGHTS[::4]:
            for one, two in unlike_pairs(weights)[:6]:
                ways = tree_paths(weights, one, two)
                if len(ways) < 2:
                    continue
                flow, least = exact(flow_of(weights, one, two)), exact(apart(weights, one, two))
                ahead, back = flow_along(len(weights), ways[0]), flow_along(len(weights), ways[-1])
                for part in (Fraction(1, 10 ** 9), Fraction(-1, 10 ** 9)):
                    other = [[a + part * (b - c) for a, b, c in zip(*rows)] for rows in zip(flow, ahead, back)]
                    self.assertGreater(exact(flow_cost(weights, one, two, told_table(other))), least)

    def test_of_heights(self):
        source = random.Random(15)
        for weights in WEIGHTS:
            for _ in range(4):
                heights = [Fraction(source.randint(-9, 9), source.randint(1, 5)) for _ in weights]
                told = height_cost(weights, tuple(pair(height) for height in heights))
                self.assertTrue(is_told_fraction(told))
                self.assertEqual(told, pair(height_cost_by_hand(weights, heights)))
                higher = tuple(pair(height + 7) for height in heights)
                self.assertEqual(height_cost(weights, higher), told)

    def test_heights_1_and_0_cost_at_least_1_over_apart(self):
        source = random.Random(16)
        for weights in WEIGHTS:
            for one, two in unlike_pairs(weights):
                least = 1 / exact(apart(weights, one, two))
                driving = [height * least for height in exact(heights_of(weights, one, two))]
                self.assertEqual(height_cost(weights, tuple(pair(height) for height in driving)), pair(least))
                other = [Fraction(source.randint(-3, 6), 4) for _ in weights]
                other[one], other[two] = Fraction(1), Fraction(0)
                cost = exact(height_cost(weights, tuple(pair(height) for height in other)))
                self.assertTrue(cost > least or other == driving)
                for place in range(len(weights)):
                    if place not in (one, two):
                        near = [height + Fraction(place == at, 10 ** 9) for at, height in enumerate(driving)]
                        told = height_cost(weights, tuple(pair(height) for height in near))
                        self.assertGreater(exact(told), least)

    def test_few_places(self):
        self.assertEqual([height_cost(LOOP, (ONE,)), height_cost(TIE, (ONE, NIL)), height_cost(BOTH, (MINUS, ONE))],
                         [NIL, HALF, (4, 3)])
        self.assertEqual([flow_cost(TIE, 0, 1, ((NIL, ONE), (MINUS, NIL))), flow_cost(RING, 0, 1, STRAIGHT)],
                         [TWO, ONE])
        self.assertEqual(flow_cost(weights=RING, one=0, two=1, flow=STRAIGHT), ONE)
        self.assertEqual(height_cost(weights=RING, heights=(ONE, NIL, HALF)), (3, 2))
        self.assertEqual(height_cost(heights=(ONE, NIL, HALF), weights=RING), (3, 2))

    def test_wrong_heights(self):
        wrong = [(None, value) for value in (None, [ONE, NIL, ONE], (), (ONE, NIL), (ONE,) * 4, {0: ONE}, "abc",
                                             b"abc", 3, True, {1, 2, 3}, range(3), nested(20), Odd())]
        wrong += [(0, (1, NIL, NIL)), (0, (None, None, None)), (0, ((2, 2), NIL, NIL)), (0, ("a", "b", "c")),
                  (0, ([1, 1], NIL, NIL)), (0, (nested(19), NIL, NIL)), (0, (True, NIL, NIL)), (0, ((0, 2), NIL, 1)),
                  (1, (ONE, (1, 0), NIL)), (1, (MINUS, (1, -1), None)), (1, (ONE, (True, 1), ONE)), (1, (ONE, {}, ONE)),
                  (2, (ONE, (-5, 7), (5, 10))), (2, (ONE, NIL, Fraction(1))), (2, (ONE, NIL, (1, 1, 1))),
                  (2, (ONE, NIL, ()))]
        for index, value in wrong:
            check_raises(self, InvalidRow, {"index": index}, lambda: height_cost(RING, value))
            check_raises(self, InvalidRow, {"index": index}, lambda: height_cost(heights=value, weights=RING))
        check_raises(self, InvalidRow, {"index": None}, lambda: height_cost(LOOP, ()))
        check_raises(self, InvalidRow, {"index": 0}, lambda: height_cost(LOOP, (1,)))


class MoreTest(unittest.TestCase):

    def test_told(self):
        for weights in WEIGHTS:
            for one, two in unlike_pairs(weights):
                for more in (NIL, ONE, (7, 3)):
                    told = with_more(weights, one, two, more)
                    rows = exact(weights)
                    rows[one][two] += exact(more)
                    rows[two][one] += exact(more)
                    self.assertEqual(told, told_table(rows))
                    self.assertIs(is_weights(told), True)
                self.assertEqual(with_more(weights, one, two, NIL), weights)

    def test_apart_by_as_much_less(self):
        for weights in WEIGHTS[::2]:
            for one, two in unlike_pairs(weights):
                if one > two:
                    continue
                between = exact(apart(weights, one, two))
                there = exact(weights[one][two])
                for more in (Fraction(0), Fraction(1, 3), Fraction(4), -there / 2, -there):
                    if more == -there and there * between == 1:
                        continue
                    told = with_more(weights, one, two, pair(more))
                    for here, to in unlike_pairs(weights)[::3]:
                        heights = exact(heights_of(weights, here, to))
                        less = more * (heights[one] - heights[two]) ** 2 / (1 + more * between)
                        before, after = exact(apart(weights, here, to)), exact(apart(told, here, to))
                        self.assertEqual(before - after, less)
                        self.assertTrue(after <= before if more >= 0 else after >= before)

    def test_left_out_exactly_if_below_1(self):
        below = {True: 0, False: 0}
        for weights in WEIGHTS:
            for one, two in ties_by_hand(weights):
                rows = exact(weights)
                product_of_both = rows[one][two] * exact(apart(weights, one, two))
                self.assertLessEqual(product_of_both, 1)
                less = pair(-rows[one][two])
                rows[one][two] = rows[two][one] = Fraction(0)
                parted = len(set(parts_by_hand(len(rows), [tie for tie in ties_by_hand(weights) if tie != (one, two)])))
                self.assertIs(product_of_both < 1, parted == 1)
                below[parted == 1] += 1
                if parted == 1:
                    self.assertEqual(with_more(weights, one, two, less), told_table(rows))
                else:
                    check_raises(self, InvalidWeights, {"given": told_table(rows)},
                                 lambda: with_more(weights, one, two, less))
        self.assertGreater(min(below.values()), 50)

    def test_down_to_what_takes_the_tie_away_and_below(self):
        self.assertEqual(with_more(RING, 0, 1, MINUS), ((NIL, NIL, ONE), (NIL, NIL, ONE), (ONE, ONE, NIL)))
        self.assertEqual(with_more(RING, 2, 1, (-1, 2))[1], (ONE, NIL, HALF))
        given = ((NIL, (-1, 2), ONE), ((-1, 2), NIL, ONE), (ONE, ONE, NIL))
        check_raises(self, InvalidWeights, {"given": given}, lambda: with_more(RING, 0, 1, (-3, 2)))
        check_raises(self, InvalidWeights, {"given": ((NIL, NIL), (NIL, NIL))}, lambda: with_more(TIE, 1, 0, (-1, 2)))
        check_raises(self, InvalidWeights, {"given": ((NIL, (-1, 6)), ((-1, 6), NIL))},
                     lambda: with_more(more=(-2, 3), two=0, one=1, weights=TIE))
        # A loop does not keep two places joined.
        check_raises(self, InvalidWeights, {"given": ((ONE, NIL), (NIL, NIL))},
                     lambda: with_more(BOTH, 0, 1, (-1, 3)))
        # A tie that was not there.
        self.assertEqual(with_more(BARS, 0, 2, HALF), ((NIL, ONE, HALF), (ONE, NIL, TWO), (HALF, TWO, ONE)))
        given = ((NIL, ONE, (-1, 9)), (ONE, NIL, TWO), ((-1, 9), TWO, ONE))
        check_raises(self, InvalidWeights, {"given": given}, lambda: with_more(BARS, 0, 2, (-1, 9)))

    def test_wrong_numbers(self):
        wrong = [None, 1, True, 0, "1", b"1", (), (1,), (1, 0), (2, 2), (0, 2), (1, -1), (1, 1, 1), [1, 1], (True, 1),
                 (1, True), {1: 1}, {1}, Fraction(1, 2), Odd(), nested(20), (ONE, ONE)]
        for value in wrong:
            check_raises(self, InvalidNumber, {"given": value}, lambda: with_more(RING, 0, 1, value))
            check_raises(self, InvalidNumber, {"given": value}, lambda: with_more(TIE, two=1, one=0, more=value))

    def test_by_name(self):
        self.assertEqual(with_more(more=ONE, two=1, one=0, weights=TIE), ((NIL, (3, 2)), ((3, 2), NIL)))


class InAllTest(unittest.TestCase):

    def test_sum_of_all(self):
        for weights in WEIGHTS + [large_weights(6)]:
            self.assertEqual(in_all(weights), pair(sum(sum(row) for row in exact(weights))))
        self.assertEqual([in_all(LOOP), in_all(TIE), in_all(BOTH), in_all(weights=BARS)], [(3, 1), ONE, (5, 3), (7, 1)])

    def test_there_and_back_by_steps(self):
        for weights in WEIGHTS:
            walk = exact(walk_of(weights))
            places = range(len(walk))
            steps = {}
            for two in places:
                # Steps to the place on the mean: 1 more than from the next one, none from itself.
                rows = [[(i == j) - (0 if i == two else walk[i][j]) for j in places] for i in places]
                found = solve_by_hand(rows, [Fraction(i != two) for i in places])
                steps.update({(one, two): found[one] for one in places})
            for one, two in unlike_pairs(weights):
                told = there_and_back(weights, one, two)
                self.assertEqual(told, pair(steps[one, two] + steps[two, one]))
                self.assertEqual(told, pair(exact(in_all(weights)) * exact(apart(weights, one, two))))

    def test_few_places(self):
        self.assertEqual([there_and_back(TIE, 0, 1), there_and_back(BOTH, 1, 0)], [TWO, (5, 1)])
        self.assertEqual(there_and_back(weights=RING, one=0, two=1), (4, 1))
        self.assertEqual(there_and_back(two=2, one=0, weights=BARS), (21, 2))


class ApartTableTest(unittest.TestCase):

    def test_all_places(self):
        for weights in WEIGHTS + [large_weights(5)]:
            told = apart_table(weights)
            self.assertTrue(is_told_table(told, len(weights)))
            for i, j in product(range(len(weights)), repeat=2):
                self.assertEqual(told[i][j], apart(weights, i, j))

    def test_one_place_and_two(self):
        self.assertEqual([apart_table(LOOP), apart_table(TIE)], [((NIL,),), ((NIL, TWO), (TWO, NIL))])
        self.assertEqual(apart_table(weights=RING), ((NIL, MORE, MORE), (MORE, NIL, MORE), (MORE, MORE, NIL)))

    def test_there_and_back(self):
        for weights in WEIGHTS + [large_weights(6)]:
            table = apart_table(weights)
            rows = [[NIL if i == j else number for j, number in enumerate(row)] for i, row in enumerate(weights)]
            expected = tuple(tuple(row) for row in rows) if len(weights) > 1 else None
            self.assertEqual(weights_for(table), expected)

    def test_one_and_two_places(self):
        for number in (NIL, ONE, MINUS, (3, 7)):
            self.assertIsNone(weights_for(((number,),)))
        self.assertEqual(weights_for(((NIL, TWO), (TWO, NIL))), TIE)
        self.assertEqual(weights_for(table=((NIL, (2, 3)), ((2, 3), NIL))), ((NIL, (3, 2)), ((3, 2), NIL)))
        for table in [((NIL, NIL), (NIL, NIL)), ((NIL, MINUS), (MINUS, NIL)), ((NIL, ONE), (TWO, NIL)),
                      ((ONE, TWO), (TWO, NIL)), ((NIL, TWO), (TWO, ONE)), ((NIL, ONE), (MINUS, NIL))]:
            self.assertIsNone(weights_for(table))

    def test_all_small_tables_of_three(self):
        """Three places are apart as the ends of a star are, its arms together as long as each two ends are apart."""
        told = {True: 0, False: 0}
        for a, b, c in product(range(-1, 6), repeat=3):
            table = ((NIL, (a, 1), (b, 1)), ((a, 1), NIL, (c, 1)), ((b, 1), (c, 1), NIL))
            arms = [Fraction(a + b - c, 2), Fraction(a + c - b, 2), Fraction(b + c - a, 2)]
            round_all = arms[0] * arms[1] + arms[1] * arms[2] + arms[0] * arms[2]
            found = weights_for(table)
            expected = min(arms) >= 0 and round_all > 0
            told[expected] += 1
            if expected:
                ends = [arms[2] / round_all, arms[1] / round_all, arms[0] / round_all]
                expected = [[0, ends[0], ends[1]], [ends[0], 0, ends[2]], [ends[1], ends[2], 0]]
                self.assertEqual(found, told_table(expected))
                self.assertEqual(apart_table(found), table)
            else:
                self.assertIsNone(found)
        self.assertGreater(min(told.values()), 50)

    def test_tables_a_little_beside(self):
        told, source = {True: 0, False: 0}, random.Random(17)
        for weights in some_weights(12, 31):
            many = len(weights)
            if many < 3:
                continue
            table = exact(apart_table(weights))
            i, j = source.choice(unlike_pairs(weights))
            for more in (Fraction(1, 50), Fraction(-1, 50), Fraction(1), -table[i][j]):
                rows = [list(row) for row in table]
                rows[i][j] += more
                rows[j][i] += more
                found = weights_for(told_table(rows))
                expected = weights_by_hand(rows)
                told[found is not None] += 1
                self.assertEqual(found, expected)
                if found is not None:
                    self.assertEqual(apart_table(found), told_table(rows))
                rows[i][j] += more
                self.assertIsNone(weights_for(told_table(rows)))
        self.assertGreater(min(told.values()), 20)

    def test_tables_that_no_weights_have(self):
        # Two unlike places apart by 0, though others are not.
        self.assertIsNone(weights_for(told_table([[abs(i - j) % 3 for j in range(4)] for i in range(4)])))
        # All apart by 0, and a place that is apart from itself.
        self.assertIsNone(weights_for(((NIL,) * 4,) * 4))
        table = apart_table(RING)
        for place in range(3):
            rows = [list(row) for row in table]
            rows[place][place] = ONE
            self.assertIsNone(weights_for(tuple(tuple(row) for row in rows)))
        # Below 0 throughout.
        self.assertIsNone(weights_for(told_table([[-number for number in row] for row in exact(table)])))

    def test_no_tables(self):
        seven = tuple(tuple(NIL if i == j else ONE for j in range(7)) for i in range(7))
        table = ((NIL, ONE), (ONE, NIL))
        wrong = [(), ((),), seven, table[:1], table + table[:1], (NIL, ONE), ((NIL, ONE, ONE), (ONE, NIL, ONE)),
                 ((NIL, ONE), (ONE,)), ((NIL, ONE), [ONE, NIL]), [list(row) for row in table], list(table),
                 ((NIL, (2, 2)), (ONE, NIL)),
                 ((NIL, 1), (1, NIL)), ((NIL, True), (True, NIL)), ((NIL, (True, 1)), (ONE, NIL)), ((0,),), ((None,),),
                 (("a",),), (((1, 0),),), (((0, 3),),), (([0, 1],),), {0: ((NIL,),)}, {((NIL,),)}, Odd(), nested(20)]
        check_given(self, InvalidTable, (weights_for, lambda value: weights_for(table=value)), wrong + ODD_VALUES)


def weights_by_hand(rows):
    """The weights with this apart table, the first place left out; None."""
    many = len(rows)
    others = range(1, many)
    gram = [[(rows[i][0] + rows[0][j] - rows[i][j]) / 2 for j in others] for i in others]
    columns = [solve_by_hand(gram, [Fraction(i == j) for i in others]) for j in others]
    if columns[0] is None:
        return None
    found = [[Fraction(0)] * many for _ in range(many)]
    for i in others:
        for j in others:
            if i != j:
                found[i][j] = -columns[j - 1][i - 1]
        found[i][0] = found[0][i] = sum(column[i - 1] for column in columns)
    return told_table(found) if is_net(found) else None


class WrongArgumentsTest(unittest.TestCase):

    def calls(self):
        """Each function by its weights and two places, in order, the rest being right for the ring."""
        return [heights_of, flow_of, apart, there_and_back, lambda *ends: is_flow(*ends, STRAIGHT),
                lambda *ends: is_flow(*ends, None), lambda *ends: flow_cost(*ends, STRAIGHT),
                lambda *ends: flow_cost(*ends, None), lambda *ends: with_more(*ends, ONE),
                lambda *ends: with_more(*ends, None), lambda *ends: with_more(*ends, (-9, 1)),
                lambda weights, one, two: is_flow(value=STRAIGHT, two=two, one=one, weights=weights),
                lambda weights, one, two: flow_cost(flow=(), two=two, one=one, weights=weights),
                lambda weights, one, two: with_more(more=(-9, 1), two=two, one=one, weights=weights)]

    def test_no_weights(self):
        for call in self.calls():
            check_given(self, InvalidWeights, (lambda value: call(value, 0, 1),), NO_WEIGHTS + ODD_VALUES)
            for one, two in ((None, None), (7, 0), (0, 0), (True, 1)):
                check_raises(self, InvalidWeights, {"given": SPIN}, lambda: call(SPIN, one, two))
        calls = (in_all, apart_table, lambda weights: height_cost(weights, (ONE,)),
                 lambda weights: height_cost(heights=None, weights=weights))
        check_given(self, InvalidWeights, calls, NO_WEIGHTS + ODD_VALUES)

    def test_no_places(self):
        for call in self.calls():
            for value in ALL_ENDS:
                check_raises(self, InvalidNumber, {"given": value}, lambda: call(RING, value, 1))
                check_raises(self, InvalidNumber, {"given": value}, lambda: call(RING, 0, value))
                check_raises(self, InvalidNumber, {"given": value}, lambda: call(RING, value, "other"))
                check_raises(self, InvalidNumber, {"given": value}, lambda: call(RING, value, value))
            check_raises(self, InvalidNumber, {"given": 1}, lambda: call(LOOP, 1, 0))
            check_raises(self, InvalidNumber, {"given": 1}, lambda: call(LOOP, 0, 1))

    def test_the_same_place(self):
        for call in self.calls():
            if call != apart:
                for place in range(3):
                    check_raises(self, InvalidNumber, {"given": place}, lambda: call(RING, place, place))
                check_raises(self, InvalidNumber, {"given": 0}, lambda: call(LOOP, 0, 0))
        self.assertEqual(apart(RING, 2, 2), NIL)

    def test_last(self):
        # What is told with "last" stands behind all others.
        check_raises(self, InvalidNumber, {"given": None}, lambda: with_more(RING, 0, 1, None))
        check_raises(self, InvalidNumber, {"given": 0}, lambda: with_more(TIE, 0, 0, (-9, 1)))
        check_raises(self, InvalidNumber, {"given": 9}, lambda: with_more(TIE, 0, 9, (-9, 1)))
        check_raises(self, InvalidWeights, {"given": ()}, lambda: with_more((), 0, 9, (-9, 1)))


if __name__ == "__main__":
    unittest.main()
