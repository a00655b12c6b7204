"""Seen alike, seen both ways, the basis, rank, heads and tails."""

import random
import unittest
from fractions import Fraction
from itertools import product

from backwalks.backward import backward, is_alike
from backwalks.errors import InvalidSighted
from backwalks.glasses import put_together, row_chance
from backwalks.seen import basis, both_ways, heads, parting, rank, seen_alike, tails, telling
from tests.helpers import (ALONE, HALF, LEAN, LINE, MORE, NIL, ODD_VALUES, ONE, SPIN, SWAP, THIRD, WHEEL, check_given,
                           check_raises, cycle_walk, large_walk, pair)
from tests.test_glasses import NO_SIGHTED
from tests.views import (CLEAR, DIM, Span, all_glasses, chance_by_hand, chance_of, doubled, joined_by_hand,
                         many_sighted, marks_of, moved, one_moved, parting_by_hand, rows_up_to, taken_by_hand)

SIGHTED = many_sighted()
COIN = ((HALF, HALF), (HALF, HALF))
BACK = ((NIL, NIL, ONE), (ONE, NIL, NIL), (NIL, ONE, NIL))
TINY = Fraction(1, 10 ** 50)
ONE_ALONE = [basis, parting, seen_alike]
OF_ONE = [both_ways, telling, rank, heads, tails]


def count_rows(marks, length):
    return sum(marks ** size for size in range(length + 1))


def seen_pairs():
    """Pairs of sighted walks with as many marks: the same, moved, doubled, backwards, one chance moved, others."""
    source, pairs = random.Random(71), []
    for sighted in SIGHTED:
        many = len(sighted[0])
        kinds = [sighted, moved(sighted, source.sample(range(many), many)), (backward(sighted[0]), sighted[1])]
        if many < 6:
            kinds.append(doubled(sighted, source.randrange(many), Fraction(source.randint(1, 4), 5)))
        if many > 1:
            kinds.append(one_moved(sighted, source, source.choice((Fraction(1, 7), TINY))))
        kinds.append(source.choice([each for each in SIGHTED if max(each[1]) == max(sighted[1])]))
        pairs.extend((sighted, kind) for kind in source.sample(kinds, 3))
    return [(one, other) for one, other in pairs if joined(one) and joined(other)]


def is_independent(table):
    """Whether the determinant of the square is other than 0."""
    span = Span()
    return all([span.takes(row) for row in table])


def joined(sighted):
    """Whether what was changed is a walk yet."""
    return sum(chance_of(sighted, (mark,)) for mark in marks_of(sighted)) == 1


PAIRS = seen_pairs()


def few_rows(pairs, most):
    """Those pairs of which not too many rows must be looked at."""
    return [(one, other) for one, other in pairs
            if count_rows(max(one[1]) + 1, len(one[0]) + len(other[0]) - 1) <= most]


class ByHandTest(unittest.TestCase):

    def test_states_by_hand(self):
        for sighted in SIGHTED[::5]:
            for row in rows_up_to(sighted, 2):
                self.assertEqual(chance_of(sighted, row), chance_by_hand(sighted, row))


class PartingTest(unittest.TestCase):

    def test_against_all_rows(self):
        alike = unlike = 0
        for one, other in few_rows(PAIRS, 1200):
            # Some rows more than are enough.
            expected = parting_by_hand(one, other, len(one[0]) + len(other[0]) - 1)
            self.assertEqual(parting(one, other), expected)
            self.assertIs(seen_alike(one, other), expected is None)
            alike, unlike = alike + (expected is None), unlike + (expected is not None)
        self.assertGreater(min(alike, unlike), 40)

    def test_first_row_of_six_places(self):
        told = 0
        for one, other in PAIRS:
            row = parting(one, other)
            if row is not None and count_rows(max(one[1]) + 1, len(row)) <= 1200:
                self.assertEqual(row, parting_by_hand(one, other, len(row)))
                self.assertNotEqual(row_chance(one, row), row_chance(other, row))
                self.assertLess(len(row), len(one[0]) + len(other[0]))
                told += 1
        self.assertGreater(told, 80)

    def test_what_is_seen_alike(self):
        source = random.Random(72)
        for sighted in SIGHTED[::2]:
            many = len(sighted[0])
            self.assertIsNone(parting(sighted, sighted))
            self.assertIsNone(parting(sighted, moved(sighted, source.sample(range(many), many))))
            if many < 6:
                other = doubled(sighted, source.randrange(many), Fraction(1, source.randint(2, 9)))
                self.assertEqual([parting(sighted, other), seen_alike(other, sighted)], [None, True])
                self.assertEqual([rank(other), heads(other), tails(other)],
                                 [rank(sighted), heads(sighted), tails(sighted)])

    def test_a_very_small_difference(self):
        source = random.Random(73)
        told = 0
        for sighted in SIGHTED:
            if len(set(sighted[1])) == len(sighted[1]) > 1 and (NIL not in sum(sighted[0], ())):
                row = parting(sighted, one_moved(sighted, source, TINY))
                self.assertIn(len(row), (1, 2))
                told += 1
        self.assertGreater(told, 8)

    def test_late_rows(self):
        # Through one mark for all but the last place what comes of a ring is seen as late as it can be.
        for many in range(2, 7):
            one = (cycle_walk(many, Fraction(1), Fraction(0)), (0,) * (many - 1) + (1,))
            rows = [list(row) for row in one[0]]
            rows[many - 2][0], rows[many - 2][many - 1] = HALF, HALF
            other = (tuple(tuple(row) for row in rows), one[1]) if many > 2 else (LEAN, (0, 1))
            self.assertEqual(parting(one, other), parting_by_hand(one, other, 2 * many - 1))

    def test_few_places(self):
        self.assertEqual([parting(DIM, (BACK, (0, 0, 1))), parting(CLEAR, (BACK, (0, 1, 2)))], [None, (0, 1)])
        self.assertEqual(parting((COIN, (0, 1)), (((THIRD, MORE), (MORE, THIRD)), (0, 1))), (0, 0))
        self.assertEqual([parting((ALONE, (0,)), (SPIN, (0, 0, 0))), seen_alike((ALONE, (0,)), (SPIN, (0, 0, 0)))],
                         [None, True])
        self.assertEqual([parting((LEAN, (0, 1)), (LEAN, (1, 0))), parting((SWAP, (0, 1)), (SWAP, (1, 0)))],
                         [(0,), None])
        self.assertEqual([parting(one=CLEAR, other=DIM[:1] + ((2, 0, 1),)), parting(other=CLEAR, one=CLEAR)],
                         [None, None])
        self.assertEqual([seen_alike(one=CLEAR, other=CLEAR), seen_alike(other=(WHEEL, (0, 2, 1)), one=CLEAR)],
                         [True, False])


class BasisTest(unittest.TestCase):

    def test_against_all_rows(self):
        told = 0
        for one, other in few_rows(PAIRS, 260):
            rows = rows_up_to(one, len(one[0]) + len(other[0]) - 1)
            self.assertEqual(basis(one, other), taken_by_hand(rows, lambda row: joined_by_hand(one, other, row)))
            told += 1
        self.assertGreater(told, 60)

    def test_first_rows_of_six_places(self):
        for one, other in PAIRS[::2]:
            rows = basis(one, other)
            length = 2 if max(one[1]) > 2 else 4
            expected = taken_by_hand(rows_up_to(one, length), lambda row: joined_by_hand(one, other, row))
            self.assertEqual(tuple(row for row in rows if len(row) <= length), expected)

    def test_what_a_basis_is(self):
        for one, other in PAIRS:
            rows = basis(one, other)
            self.assertIs(type(rows), tuple)
            self.assertEqual(rows[0], ())
            self.assertEqual(rows, tuple(sorted(set(rows), key=lambda row: (len(row), row))))
            self.assertTrue(all(row[:-1] in rows for row in rows))
            self.assertLessEqual(len(rows), len(one[0]) + len(other[0]))
            self.assertTrue(all(type(row) is tuple and type(mark) is int for row in rows for mark in row))
            # Whatever mark stands behind one of its rows, the joined state is a combination of those of the basis.
            span = Span()
            self.assertTrue(all([span.takes(joined_by_hand(one, other, row)) for row in rows]))
            for row, mark in product(rows, marks_of(one)):
                self.assertFalse(span.takes(joined_by_hand(one, other, row + (mark,))))
            sums = [sum(joined_by_hand(one, other, row)) for row in rows]
            self.assertEqual(seen_alike(one, other), not any(sums))
            first = next((row for row, number in zip(rows, sums) if number), None)
            self.assertEqual(parting(one, other), first)

    def test_few_places(self):
        self.assertEqual([basis(CLEAR, CLEAR), basis((COIN, (0, 0)), (ALONE, (0,)))], [((), (0,), (1,)), ((),)])
        self.assertEqual([basis(one=CLEAR, other=CLEAR), basis(other=(ALONE, (0,)), one=(ALONE, (0,)))],
                         [((), (0,), (1,)), ((),)])


class BothWaysTest(unittest.TestCase):

    def test_against_all_rows(self):
        told = {True: 0, False: 0}
        for sighted in SIGHTED:
            if count_rows(max(sighted[1]) + 1, 2 * len(sighted[0]) - 1) > 2500:
                continue
            rows = rows_up_to(sighted, 2 * len(sighted[0]) - 1)
            expected = next((row for row in rows if chance_of(sighted, row) != chance_of(sighted, row[::-1])), None)
            self.assertEqual(telling(sighted), expected)
            self.assertIs(both_ways(sighted), expected is None)
            told[expected is None] += 1
        self.assertGreater(min(told.values()), 10)

    def test_first_row_of_six_places(self):
        told = 0
        for sighted in SIGHTED:
            row = telling(sighted)
            if row is not None:
                self.assertNotEqual(row_chance(sighted, row), row_chance(sighted, row[::-1]))
                self.assertLess(len(row), 2 * len(sighted[0]))
                if count_rows(max(sighted[1]) + 1, len(row)) <= 1200:
                    rows = rows_up_to(sighted, len(row))
                    self.assertEqual(row, next(row for row in rows if chance_of(sighted, row)
                                               != chance_of(sighted, row[::-1])))
                    told += 1
        self.assertGreater(told, 30)

    def test_alike_backwards_through_all_glasses(self):
        for walk in sorted({sighted[0] for sighted in SIGHTED}):
            many = len(walk)
            self.assertIs(both_ways((walk, tuple(range(many)))), is_alike(walk))
            self.assertIs(both_ways((walk, (0,) * many)), True)
            if is_alike(walk) and many < 5:
                for glasses in all_glasses(many):
                    self.assertEqual([both_ways((walk, glasses)), telling((walk, glasses))], [True, None])

    def test_more_places_for_one(self):
        for many in (3, 4):
            for walk in [sighted[0] for sighted in SIGHTED if len(sighted[0]) == many][:12]:
                for own, glasses in product(all_glasses(many), repeat=2):
                    pairs = [(i, j) for i in range(many) for j in range(i) if own[i] == own[j]]
                    if own == tuple(sorted(own)) and all(glasses[i] == glasses[j] for i, j in pairs):
                        if both_ways((walk, own)):
                            self.assertIs(both_ways(put_together((walk, own), glasses)), True)

    def test_hidden_for_ever(self):
        self.assertEqual([both_ways(DIM), telling(DIM), both_ways(CLEAR), telling(CLEAR)], [True, None, False, (0, 1)])
        self.assertEqual([both_ways((SPIN, (0, 0, 1))), is_alike(SPIN), telling((SPIN, (1, 0, 2)))],
                         [True, False, (0, 1)])
        self.assertEqual([telling(sighted=(LINE, (0, 1, 2))), both_ways(sighted=CLEAR)], [None, False])
        self.assertEqual([telling((ALONE, (0,))), both_ways((SWAP, (1, 0)))], [None, True])


class RankTest(unittest.TestCase):

    def test_against_tables_of_chances(self):
        told = 0
        for sighted in SIGHTED:
            many = len(sighted[0])
            if count_rows(max(sighted[1]) + 1, many - 1) > 90:
                continue
            rows = rows_up_to(sighted, many - 1)
            self.assertEqual(heads(sighted), taken_by_hand(
                rows, lambda row: [chance_of(sighted, row + behind) for behind in rows]))
            self.assertEqual(tails(sighted), taken_by_hand(
                rows, lambda row: [chance_of(sighted, ahead + row) for ahead in rows]))
            told += 1
        self.assertGreater(told, 90)

    def test_what_heads_and_tails_are(self):
        for sighted in SIGHTED:
            first, second, many = heads(sighted), tails(sighted), rank(sighted)
            self.assertEqual([type(first), type(second), type(many)], [tuple, tuple, int])
            self.assertEqual([len(first), len(second)], [many, many])
            self.assertTrue(1 <= many <= len(sighted[0]))
            for rows in (first, second):
                self.assertEqual(rows[0], ())
                self.assertEqual(rows, tuple(sorted(set(rows), key=lambda row: (len(row), row))))
                self.assertLess(max(map(len, rows)), len(sighted[0]))
            self.assertTrue(all(row[:-1] in first for row in first))
            self.assertTrue(all(row[1:] in second for row in second))
            table = [[chance_of(sighted, row + behind) for behind in second] for row in first]
            self.assertIs(is_independent(table), True)
            # With one row more of either kind each table has the determinant 0.
            source = random.Random(74)
            rows = rows_up_to(sighted, 2)
            for _ in range(3):
                more, behind = source.choice(rows), source.choice(rows)
                larger = [[chance_of(sighted, row + tail) for tail in second + (behind,)] for row in first + (more,)]
                self.assertIs(is_independent(larger), False)

    def test_of_the_walk_backwards(self):
        for sighted in SIGHTED:
            back = (backward(sighted[0]), sighted[1])
            self.assertEqual(rank(back), rank(sighted))
            self.assertEqual(sorted(map(len, heads(back))), sorted(map(len, tails(sighted))))

    def test_few_places(self):
        self.assertEqual([rank(DIM), heads(DIM), tails(DIM), rank(CLEAR), heads(CLEAR), tails(CLEAR)],
                         [3, ((), (0,), (0, 0)), ((), (0,), (0, 0)), 3, ((), (0,), (1,)), ((), (0,), (1,))])
        self.assertEqual([rank((COIN, (0, 0))), rank((COIN, (0, 1))), rank((LEAN, (0, 1))), rank((LEAN, (0, 0)))],
                         [1, 1, 2, 1])
        self.assertEqual([rank((ALONE, (0,))), heads((ALONE, (0,))), tails((ALONE, (0,)))], [1, ((),), ((),)])
        self.assertEqual([rank(sighted=DIM), heads(sighted=DIM), tails(sighted=DIM)], [3, heads(DIM), tails(DIM)])

    def test_heads_and_tails_of_unlike_lengths(self):
        quarter = (1, 4)
        walk = ((THIRD, NIL, THIRD, THIRD), (HALF, HALF, NIL, NIL), (NIL, HALF, NIL, HALF), (quarter,) * 4)
        self.assertEqual([heads((walk, (1, 1, 0, 0))), tails((walk, (1, 1, 0, 0)))],
                         [((), (0,), (0, 0), (0, 1)), ((), (0,), (1, 0), (0, 1, 0))])

    def test_rings(self):
        for many in range(2, 7):
            wheel = (cycle_walk(many, Fraction(1), Fraction(0)), (0,) * (many - 1) + (1,))
            self.assertEqual([rank(wheel), heads(wheel)[-1]], [many, (0,) * (many - 1)])
            self.assertEqual(rank((wheel[0], (0,) * many)), 1)

    def test_numbers_of_many_figures(self):
        for many in (2, 4, 6):
            self.assertEqual(rank((large_walk(many), tuple(range(many)))), many)
        source = random.Random(75)
        other = one_moved((large_walk(3), (0, 1, 1)), source, Fraction(1, 10 ** 300))
        self.assertEqual(parting((large_walk(3), (0, 1, 1)), other), (0,))
        self.assertIs(seen_alike(doubled((large_walk(3), (0, 1, 1)), 2, Fraction(1, 3)), (large_walk(3), (0, 1, 1))),
                      True)


class WrongArgumentsTest(unittest.TestCase):

    def test_no_sighted_walks(self):
        for call in OF_ONE:
            check_given(self, InvalidSighted, (call, lambda value: call(sighted=value)), NO_SIGHTED + ODD_VALUES)

    def test_no_one(self):
        for call in ONE_ALONE:
            for other in (CLEAR, None, (WHEEL, (0, 0, 2))):
                calls = (lambda value: call(value, other), lambda value: call(other=other, one=value))
                check_given(self, InvalidSighted, calls, NO_SIGHTED + ODD_VALUES)

    def test_no_other(self):
        for call in ONE_ALONE:
            calls = (lambda value: call(CLEAR, value), lambda value: call(other=value, one=CLEAR))
            check_given(self, InvalidSighted, calls, NO_SIGHTED + ODD_VALUES)

    def test_another_number_of_marks(self):
        for call in ONE_ALONE:
            for other in (DIM, (SPIN, (0, 0, 0)), (ALONE, (0,)), (SWAP, (1, 0))):
                check_raises(self, InvalidSighted, {"given": other}, lambda: call(CLEAR, other))
                check_raises(self, InvalidSighted, {"given": CLEAR}, lambda: call(other, CLEAR))
                check_raises(self, InvalidSighted, {"given": CLEAR}, lambda: call(other=CLEAR, one=other))


if __name__ == "__main__":
    unittest.main()
