"""Fractions, determinants and what is left of rows."""

import random
import unittest
from fractions import Fraction
from itertools import combinations, permutations

from backwalks import exact
from tests.helpers import ODD_VALUES, pair


def determinant_by_hand(rows):
    """The sum over all orders of the columns."""
    found = Fraction(0)
    for order in permutations(range(len(rows))):
        term = Fraction(1)
        for row, column in enumerate(order):
            term *= rows[row][column]
        turned = sum(order[i] > order[j] for j in range(len(order)) for i in range(j))
        found += (-1) ** turned * term
    return found


class KindsTest(unittest.TestCase):

    def test_whole_numbers(self):
        for value in (0, 1, -1, 10 ** 500, -10 ** 500):
            self.assertIs(exact.is_whole(value), True)
        for value in (True, False, None, "1", b"1", Fraction(1), (1,), [1], {1}):
            self.assertIs(exact.is_whole(value), False)

    def test_places(self):
        self.assertEqual([exact.is_place(value, 3) for value in (-1, 0, 1, 2, 3)], [False, True, True, True, False])
        self.assertEqual([exact.is_place(value, 3) for value in (True, False, None, "0")], [False] * 4)

    def test_fractions(self):
        for value in ((0, 1), (1, 1), (-1, 1), (-3, 2), (7, 9), (10 ** 399, 10 ** 399 + 1)):
            self.assertIs(exact.is_fraction(value), True)
        wrong = [(0, 2), (2, 2), (2, 4), (-2, 4), (0, 0), (1, 0), (0, -1), (1, -2), (-1, -2), (True, 1), (1, True),
                 (False, 1), [1, 2], (1,), (1, 2, 3), (1, 2, 1), ((1, 2), (1, 2)), ("1", "2"), (1, "2"), (1, None)]
        for value in wrong + [value for value in ODD_VALUES]:
            self.assertIs(exact.is_fraction(value), False)

    def test_fractions_from_nil(self):
        told = [exact.is_from_nil(value) for value in ((0, 1), (1, 3), (5, 1), (-1, 3), (2, 4), 1, None)]
        self.assertEqual(told, [True, True, True, False, False, False, False])


    def test_rows_of_fractions(self):
        row = ((1, 2), (-1, 3))
        values = (row, list(row), row[:1], row + row, ((1, 2), (2, 4)), None)
        self.assertEqual([exact.is_fraction_row(value, 2) for value in values], [True] + [False] * 5)
        self.assertIs(exact.is_fraction_row((), 0), True)


class ReckoningTest(unittest.TestCase):

    def test_lowest(self):
        for top in range(-6, 7):
            for bottom in (-6, -4, -1, 1, 2, 3, 6):
                self.assertEqual(exact.lowest(top, bottom), pair(Fraction(top, bottom)))

    def test_two_fractions(self):
        numbers = [Fraction(top, bottom) for top in range(-4, 5) for bottom in (1, 2, 3, 4, 7)]
        for one in numbers:
            for other in numbers:
                told = [exact.plus(pair(one), pair(other)), exact.minus(pair(one), pair(other)),
                        exact.times(pair(one), pair(other))]
                self.assertEqual(told, [pair(one + other), pair(one - other), pair(one * other)])
                if other != 0:
                    self.assertEqual(exact.over(pair(one), pair(other)), pair(one / other))

    def test_order(self):
        numbers = [Fraction(top, bottom) for top in range(-4, 5) for bottom in (1, 2, 3, 7)]
        for one in numbers:
            self.assertEqual(exact.opposite(pair(one)), pair(-one))
            for other in numbers:
                self.assertIs(exact.is_below(pair(one), pair(other)), one < other)
                self.assertEqual(exact.least([pair(one), pair(other)]), pair(min(one, other)))
        self.assertEqual(exact.least([(1, 2), (-1, 3), (2, 7), (-1, 2), (0, 1)]), (-1, 2))

    def test_rows(self):
        self.assertEqual([exact.total(()), exact.product_of(())], [(0, 1), (1, 1)])
        row = ((1, 2), (-2, 3), (5, 1))
        self.assertEqual([exact.total(row), exact.product_of(row)], [(29, 6), (-5, 3)])
        self.assertEqual([exact.total(list(row)), exact.product_of(((1, 2), (0, 1), (3, 1)))], [(29, 6), (0, 1)])

    def test_long_product(self):
        self.assertEqual(exact.product_of([(2, 3)] * 400), (2 ** 400, 3 ** 400))

    def test_determinants(self):
        self.assertEqual([exact.determinant([]), exact.determinant([[(3, 7)]])], [(1, 1), (3, 7)])
        source = random.Random(3)
        for many in range(1, 6):
            for _ in range(60):
                rows = [[Fraction(source.choice((0, 0, 1, -2, 3)), source.randint(1, 4)) for _ in range(many)]
                        for _ in range(many)]
                told = [[pair(number) for number in row] for row in rows]
                before = [list(row) for row in told]
                self.assertEqual(exact.determinant(told), pair(determinant_by_hand(rows)))
                self.assertEqual(told, before)

    def test_solved(self):
        self.assertEqual(exact.solved([], []), [])
        self.assertEqual(exact.solved([[(2, 3)]], [[(1, 2), (5, 1)]]), [[(3, 4), (15, 2)]])
        source, none = random.Random(4), 0
        for many in range(1, 6):
            for _ in range(60):
                rows = [[Fraction(source.choice((0, 0, 1, -2, 3)), source.randint(1, 4)) for _ in range(many)]
                        for _ in range(many)]
                found = [[Fraction(source.randint(-4, 4), 3) for _ in range(2)] for _ in range(many)]
                sides = [[sum(row[k] * found[k][at] for k in range(many)) for at in range(2)] for row in rows]
                square = [[pair(number) for number in row] for row in rows]
                before = [list(row) for row in square]
                told = exact.solved(square, [[pair(number) for number in row] for row in sides])
                if determinant_by_hand(rows) == 0:
                    none += 1
                    self.assertIsNone(told)
                    self.assertIsNone(exact.inverse(square))
                else:
                    self.assertEqual(told, [[pair(number) for number in row] for row in found])
                    self.check_inverse(square)
                self.assertEqual(square, before)
        self.assertGreater(none, 30)

    def test_shortened(self):
        for numbers, expected in (([4, -6, 0], [2, -3, 0]), ([0, 0], [0, 0]), ([5], [1]), ([-5], [-1]), ([3, 7],
        [3, 7]),
                                  ([], []), ([0, -9], [0, -1]), ([10 ** 50, 10 ** 49], [10, 1])):
            self.assertEqual(exact.shortened(numbers), expected)
            shared = exact.shared_divisor(numbers)
            self.assertEqual([number * shared for number in expected], numbers)
        self.assertEqual([exact.shared_divisor(row) for row in ([], [0, 0], [-6, 4], [0, 7])], [0, 0, 2, 7])
        self.assertEqual([exact.multiplied([1, -2, 0], 3), exact.multiplied([], 3)], [[3, -6, 0], []])
        self.assertEqual([exact.whole_dot([1, -2, 0], (3, 4, 5)), exact.whole_dot([], [])], [-5, 0])

    def test_first_other_than_nil(self):
        for numbers, expected in (([0, 0, 3], 2), ([1], 0), ([0, -1, 1], 1)):
            self.assertEqual(exact.first_other_than_nil(numbers), expected)

    def test_left_over(self):
        source = random.Random(6)
        self.assertEqual([exact.left_over([4, 6], []), exact.left_over([0, 6], [[0, -2]])], [[4, 6], [0, 0]])
        for _ in range(300):
            many = source.randint(1, 5)
            rows = [[source.choice((0, 0, 1, -2, 3)) for _ in range(many)] for _ in range(many)]
            leads, taken = [], []
            for row in rows:
                left = exact.left_over(row, leads)
                if any(left):
                    leads.append(left)
                    taken.append(row)
            # As many as are taken are a square with a determinant other than 0 in some columns; no more are.
            for size in (len(taken), len(taken) + 1):
                squares = [[[Fraction(row[at]) for at in columns] for row in chosen]
                           for chosen in ([taken] if size == len(taken) else combinations(rows, size))
                           for columns in combinations(range(many), size)]
                self.assertIs(any(determinant_by_hand(square) for square in squares), size == len(taken))

    def check_inverse(self, square):
        many, told = len(square), exact.inverse(square)
        for i in range(many):
            for j in range(many):
                found = exact.total([exact.times(square[i][k], told[k][j]) for k in range(many)])
                self.assertEqual(found, (int(i == j), 1))


if __name__ == "__main__":
    unittest.main()
