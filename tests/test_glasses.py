"""Glasses, sighted walks, chances of rows, states and sights."""

import random
import unittest
from fractions import Fraction
from itertools import product

from backwalks.backward import backward
from backwalks.errors import InvalidGlasses, InvalidNumber, InvalidRow, InvalidSighted
from backwalks.glasses import is_glasses, is_sighted, put_together, row_chance, sight_of, state_of
from backwalks.walks import seen_chance, shares_of
from tests.helpers import (ALONE, HALF, LEAN, LINE, MORE, NIL, ODD_VALUES, ONE, SPIN, SWAP, THIRD, WHEEL, Odd,
                           check_given, check_raises, cycle_walk, exact, is_told_fraction, is_told_row, large_walk,
                           nested, pair)
from tests.nets import RING
from tests.views import CLEAR, DIM, all_glasses, at_rest_by_hand, chance_by_hand, many_sighted, places_with, rows_up_to

SIGHTED = many_sighted()
NO_GLASSES = [
    (), (0,), (0, 1), (0, 0, 0, 0), (-1, 1, 1), (-1, 2, 1), (1, 1, 1), (0, 0, 2), (0, 2, 1, 0), (2, 0, 0), (1, 2, 3),
    (0, 1, 3), (0, 0, -1), (-1, 0, 1), (0, 0, 10 ** 60), (10 ** 60, 0, 1), (0, False, 1), (0, True, 1), (False, 0, 0),
    (True, 0, 0), (0, 0, None), (None, 0, 0), (0, "1", 0), ("0", "0", "1"), (0, (1,), 0), ((0,), (0,), (1,)),
    (0, [1], 0), (0, {1}, 0), (0, 0, nested(19)), (0, 0, Fraction(1)), (0, Odd(), 1), [0, 0, 1], [0, 1, 2],
    {0: 0, 1: 0, 2: 1}, {0, 1, 2}, "001", b"\x00\x00\x01", range(3), ((0, 0, 1),), nested(20),
]
NO_SIGHTED = [
    (), (WHEEL,), (WHEEL, (0, 0, 1), ()), WHEEL, [WHEEL, (0, 0, 1)], {WHEEL: (0, 0, 1)}, {WHEEL, (0, 0, 1)},
    ((0, 0, 1), WHEEL), (WHEEL, None), (None, (0, 0, 1)), (RING, (0, 0, 1)), (WHEEL[:2], (0, 1)), (WHEEL, WHEEL),
    ([*WHEEL], (0, 0, 1)), ((), ()), (((HALF,),), (0,)), (ALONE, (1,)), (ALONE, ()), (ALONE, (0, 0)), (SWAP, (0,)),
    (SWAP, (0, 0, 1)), (tuple(tuple((1, 7) for _ in range(7)) for _ in range(7)), (0,) * 7), (nested(19), nested(19)),
    (((ONE, NIL), (HALF, HALF)), (0, 1)), (((True, 1),), (0,)), "wheel", b"wheel", 0, 1, True, None,
] + [(WHEEL, glasses) for glasses in NO_GLASSES]


class IsGlassesTest(unittest.TestCase):

    def test_all_tuples_of_marks(self):
        for many in range(1, 7):
            found = 0
            for value in product(range(min(many + 1, 5)), repeat=many):
                expected = all(lesser in value for mark in value for lesser in range(mark))
                self.assertIs(is_glasses(many, value), expected)
                found += expected
            self.assertEqual(len([value for value in all_glasses(many) if max(value) < 5]), found)

    def test_glasses(self):
        for value in ((0, 0, 1), (0, 1, 2), (2, 1, 0), (0, 0, 0), (1, 0, 1), (1, 0, 0)):
            self.assertIs(is_glasses(3, value), True)
        self.assertEqual([is_glasses(1, (0,)), is_glasses(6, (5, 4, 3, 2, 1, 0)), is_glasses(6, (0,) * 6)], [True] * 3)
        self.assertEqual([is_glasses(2, (0, 0, 1)), is_glasses(4, (0, 0, 1)), is_glasses(1, ())], [False] * 3)
        self.assertEqual([is_glasses(many=2, value=(0, 1)), is_glasses(value=(1, 1), many=2)], [True, False])

    def test_no_glasses(self):
        for value in NO_GLASSES + ODD_VALUES:
            self.assertIs(is_glasses(3, value), False, value)
        for many in (1, 2, 4, 5, 6):
            for value in ODD_VALUES:
                self.assertIs(is_glasses(many, value), False)

    def test_wrong_numbers(self):
        for many in (0, 7, -1, 10 ** 50, True, False, None, "3", b"\x03", (3,), [3], {3}, {3: 3}, Fraction(3), 3j,
                     Odd(), nested(20), (1, 1)):
            for value in ((0, 0, 1), None, (), (0,)):
                check_raises(self, InvalidNumber, {"given": many}, lambda: is_glasses(many, value))
                check_raises(self, InvalidNumber, {"given": many}, lambda: is_glasses(value=value, many=many))


class IsSightedTest(unittest.TestCase):

    def test_sighted_walks(self):
        for value in SIGHTED + [(large_walk(6), (3, 0, 1, 2, 2, 0)), (ALONE, (0,))]:
            self.assertIs(is_sighted(value), True)
        for glasses in all_glasses(3):
            self.assertIs(is_sighted((WHEEL, glasses)), True)
        self.assertIs(is_sighted(value=DIM), True)

    def test_no_sighted_walks(self):
        for value in NO_SIGHTED + ODD_VALUES:
            self.assertIs(is_sighted(value), False, value)
        self.assertIs(is_sighted(value=None), False)


class RowChanceTest(unittest.TestCase):

    def test_by_all_rows_of_places(self):
        for sighted in SIGHTED:
            for row in rows_up_to(sighted, 3 if len(sighted[0]) < 5 else 2):
                told = row_chance(sighted, row)
                self.assertTrue(is_told_fraction(told))
                self.assertEqual(told, pair(chance_by_hand(sighted, row)))

    def test_longer_rows(self):
        source = random.Random(61)
        for sighted in SIGHTED[::3]:
            marks = max(sighted[1]) + 1
            row = tuple(source.randrange(marks) for _ in range(5))
            if len(list(places_with(sighted, row))) < 500:
                self.assertEqual(row_chance(sighted, row), pair(chance_by_hand(sighted, row)))

    def test_all_rows_of_a_length_together(self):
        for sighted in SIGHTED[::2]:
            for length in range(4 if len(sighted[0]) < 5 else 3):
                rows = [row for row in rows_up_to(sighted, length) if len(row) == length]
                self.assertEqual(sum(exact(row_chance(sighted, row)) for row in rows), 1)

    def test_unlike_marks_are_places(self):
        for walk in (SPIN, LINE, LEAN, cycle_walk(5, Fraction(1, 2), Fraction(1, 3))):
            for length in range(1, 4):
                for row in product(range(len(walk)), repeat=length):
                    self.assertEqual(row_chance((walk, tuple(range(len(walk)))), row), seen_chance(walk, row))

    def test_one_mark_for_all(self):
        for walk in (ALONE, SWAP, SPIN, WHEEL, cycle_walk(6, Fraction(1, 5), Fraction(1, 7))):
            for length in (0, 1, 2, 7, 40):
                self.assertEqual(row_chance((walk, (0,) * len(walk)), (0,) * length), ONE)

    def test_turned_in_the_walk_backwards(self):
        for walk, glasses in SIGHTED:
            for row in rows_up_to((walk, glasses), 3 if len(walk) < 4 else 2) + [(0,) * 12, (max(glasses), 0) * 5]:
                self.assertEqual(row_chance((backward(walk), glasses), row[::-1]), row_chance((walk, glasses), row))

    def test_rows_of_forty(self):
        self.assertEqual(row_chance(DIM, (0, 0, 1) * 13 + (0,)), THIRD)
        self.assertEqual(row_chance(DIM, (0, 1, 0) * 13 + (0,)), THIRD)
        self.assertEqual(row_chance(DIM, (0,) * 40), NIL)
        self.assertEqual(row_chance((LEAN, (0, 1)), (0,) * 40), pair(Fraction(2, 5) / 2 ** 39))
        self.assertEqual(row_chance((LEAN, (1, 0)), (0, 1) * 20),
                         pair(Fraction(3, 5) * Fraction(1, 3) ** 20 * Fraction(1, 2) ** 19))

    def test_few_marks(self):
        self.assertEqual([row_chance(DIM, ()), row_chance(DIM, (0,)), row_chance(DIM, (1,))], [ONE, MORE, THIRD])
        self.assertEqual([row_chance(DIM, (0, 0)), row_chance(DIM, (1, 1)), row_chance((ALONE, (0,)), ())],
                         [THIRD, NIL, ONE])
        self.assertEqual(row_chance(sighted=DIM, row=(0, 0, 1)), THIRD)
        self.assertEqual(row_chance(row=(1, 0), sighted=CLEAR), NIL)

    def test_large_numbers(self):
        sighted = (large_walk(4), (0, 1, 1, 0))
        for row in ((0, 1), (1, 1, 0), (1, 0, 0, 1)):
            self.assertEqual(row_chance(sighted, row), pair(chance_by_hand(sighted, row)))


class StatesTest(unittest.TestCase):

    def test_states_by_all_rows_of_places(self):
        for sighted in SIGHTED:
            table, shares = exact(sighted[0]), at_rest_by_hand(sighted[0])
            for row in rows_up_to(sighted, 2):
                expected = [Fraction(0)] * len(table) if row else shares
                for places in places_with(sighted, row) if row else ():
                    chance = shares[places[0]]
                    for here, there in zip(places, places[1:]):
                        chance *= table[here][there]
                    expected[places[-1]] += chance
                told = state_of(sighted, row)
                self.assertTrue(is_told_row(told, len(table)))
                self.assertEqual(exact(told), expected)

    def test_the_chance_is_the_sum_of_the_state(self):
        for sighted in SIGHTED[::2]:
            for row in rows_up_to(sighted, 3 if len(sighted[0]) < 5 else 2):
                self.assertEqual(pair(sum(exact(state_of(sighted, row)))), row_chance(sighted, row))

    def test_sights_by_all_rows_of_places(self):
        for sighted in SIGHTED:
            table = exact(sighted[0])
            for row in rows_up_to(sighted, 2):
                expected = [Fraction(0)] * len(table)
                for here in range(len(table)):
                    for places in places_with(sighted, row):
                        chance = Fraction(1)
                        for at, there in zip((here,) + places, places):
                            chance *= table[at][there]
                        expected[here] += chance
                told = sight_of(sighted, row)
                self.assertTrue(is_told_row(told, len(table)))
                self.assertEqual(exact(told), expected)

    def test_a_row_with_another_one_behind_it(self):
        source = random.Random(62)
        for sighted in SIGHTED:
            rows = rows_up_to(sighted, 3 if len(sighted[0]) < 5 else 2)
            for _ in range(12):
                first, second = source.choice(rows), source.choice(rows)
                pairs = zip(exact(state_of(sighted, first)), exact(sight_of(sighted, second)))
                found = sum(state * sight for state, sight in pairs)
                self.assertEqual(row_chance(sighted, first + second), pair(found))

    def test_of_no_marks(self):
        for sighted in SIGHTED:
            self.assertEqual([state_of(sighted, ()), sight_of(sighted, ())],
                             [shares_of(sighted[0]), (ONE,) * len(sighted[0])])

    def test_few_marks(self):
        self.assertEqual([state_of(DIM, (0, 0)), sight_of(DIM, (0,))], [(NIL, THIRD, NIL), (ONE, NIL, ONE)])
        self.assertEqual([state_of(DIM, (1, 0)), sight_of(DIM, (1, 0))], [(THIRD, NIL, NIL), (NIL, ONE, NIL)])
        self.assertEqual([state_of(sighted=DIM, row=(1,)), state_of(row=(0,), sighted=DIM)],
                         [(NIL, NIL, THIRD), (THIRD, THIRD, NIL)])
        self.assertEqual([sight_of(sighted=DIM, row=(1,)), sight_of(row=(0, 1), sighted=DIM)],
                         [(NIL, ONE, NIL), (ONE, NIL, NIL)])
        self.assertEqual([state_of((ALONE, (0,)), (0,) * 40), sight_of((ALONE, (0,)), (0,) * 40)], [(ONE,), (ONE,)])
        self.assertEqual([state_of((LEAN, (0, 0)), (0,)), sight_of((LEAN, (0, 1)), (0,))],
                         [((2, 5), (3, 5)), (HALF, THIRD)])

    def test_rows_of_forty(self):
        self.assertEqual(state_of(DIM, (0, 0, 1) * 13 + (0,)), (THIRD, NIL, NIL))
        self.assertEqual(sight_of(DIM, (0, 0, 1) * 13 + (0,)), (NIL, NIL, ONE))


class WrongRowsTest(unittest.TestCase):

    def test_no_rows(self):
        none = [None, [0], [], {0: 1}, {0}, "0", b"\x00", 0, 1, True, range(2), Fraction(1), Odd(), (0,) * 41,
                (None,) * 41, (0, 1) * 200]
        first = [(2,), (-1,), (None,), (True,), (False, 0), ("0",), ((0,),), ([0],), ({0},), (Fraction(0),), (Odd(),),
                 (nested(19),), (10 ** 50, 0), (2, 3)]
        later = [((0, 2), 1), ((0, 1, -1), 2), ((0, 1, 1, None, 5), 3), ((0, True), 1), ((1, 1, False), 2),
                 ((0,) * 39 + (2,), 39), ((0, (0,)), 1), ((0, 1, "1"), 2), ((1, [0]), 1)]
        for call in (row_chance, state_of, sight_of):
            for index, values in ((None, none), (0, first)):
                for value in values:
                    check_raises(self, InvalidRow, {"index": index}, lambda: call(DIM, value))
                    check_raises(self, InvalidRow, {"index": index}, lambda: call(row=value, sighted=DIM))
            for value, index in later:
                check_raises(self, InvalidRow, {"index": index}, lambda: call(DIM, value))
            check_raises(self, InvalidRow, {"index": 1}, lambda: call((SWAP, (0, 0)), (0, 1)))
            check_raises(self, InvalidRow, {"index": 0}, lambda: call((ALONE, (0,)), (1,)))
            self.assertEqual(call(CLEAR, (0, 1, 2)), call(sighted=CLEAR, row=(0, 1, 2)))

    def test_no_sighted_walks(self):
        for call in (row_chance, state_of, sight_of):
            for row in ((), None, (9,), (0,) * 41):
                calls = (lambda value: call(value, row), lambda value: call(row=row, sighted=value))
                check_given(self, InvalidSighted, calls, NO_SIGHTED + ODD_VALUES)


class PutTogetherTest(unittest.TestCase):

    def test_all_glasses(self):
        for many in range(1, 5):
            walk = cycle_walk(many, Fraction(1, 2), Fraction(1, 3))
            for own, glasses in product(all_glasses(many), repeat=2):
                pairs = [(i, j) for i, j in product(range(many), repeat=2) if own[i] == own[j]]
                if all(glasses[i] == glasses[j] for i, j in pairs):
                    self.assertEqual(put_together((walk, own), glasses), (walk, glasses))
                else:
                    check_raises(self, InvalidGlasses, {"given": glasses}, lambda: put_together((walk, own), glasses))

    def test_chances_are_added(self):
        source = random.Random(63)
        for sighted in SIGHTED:
            marks = max(sighted[1]) + 1
            order = source.sample(range(marks), marks)
            together = [min(mark, source.randrange(marks)) for mark in order]
            counted = sorted(set(together))
            to = [counted.index(mark) for mark in together]
            told = put_together(sighted, tuple(to[mark] for mark in sighted[1]))
            self.assertIs(is_sighted(told), True)
            for row in rows_up_to(told, 2):
                finer = product(*[[mark for mark in range(marks) if to[mark] == each] for each in row])
                self.assertEqual(row_chance(told, row), pair(sum(exact(row_chance(sighted, each)) for each in finer)))

    def test_few_places(self):
        self.assertEqual([put_together(CLEAR, (0, 0, 1)), put_together(DIM, (0, 0, 1)), put_together(DIM, (0, 0, 0))],
                         [DIM, DIM, (WHEEL, (0, 0, 0))])
        self.assertEqual(put_together(sighted=DIM, glasses=(1, 1, 0)), (WHEEL, (1, 1, 0)))
        self.assertEqual(put_together(glasses=(0,), sighted=(ALONE, (0,))), (ALONE, (0,)))
        self.assertEqual(put_together(CLEAR, (2, 1, 0)), (WHEEL, (2, 1, 0)))

    def test_wrong_glasses(self):
        calls = (lambda value: put_together(CLEAR, value), lambda value: put_together(glasses=value, sighted=CLEAR))
        check_given(self, InvalidGlasses, calls, NO_GLASSES + ODD_VALUES)
        for value in ((0, 1, 1), (0, 1, 0), (1, 0, 1), (0, 1, 2), (2, 1, 0)):
            check_raises(self, InvalidGlasses, {"given": value}, lambda: put_together(DIM, value))

    def test_two_wrong_arguments(self):
        for glasses in ((0, 0, 1), None, (0, 1, 1)):
            calls = (lambda value: put_together(value, glasses),
                     lambda value: put_together(glasses=glasses, sighted=value))
            check_given(self, InvalidSighted, calls, NO_SIGHTED + ODD_VALUES)


if __name__ == "__main__":
    unittest.main()
