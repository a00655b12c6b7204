"""What turns: two-way parts, turns, and the walk by toss."""

import random
import unittest
from fractions import Fraction
from itertools import permutations, product

from backwalks.backward import backward, is_alike
from backwalks.errors import InvalidWalk
from backwalks.turning import are_turns, by_toss, turns_of, two_way
from backwalks.walks import flows_of, is_walk, shares_of
from tests.helpers import (ALONE, HALF, LEAN, LINE, NIL, ODD_VALUES, ONE, SPIN, SWAP, THIRD, WHEEL, Odd, check_given,
                           cycle_walk, exact, is_told_fraction, is_told_table, large_walk, many_walks, nested, pair,
                           walk_of_rows)

WALKS = many_walks() + [large_walk(4)]
NINTH = (1, 9)
SPIN_TURNS = (((0, 1, 2), NINTH),)


def excess_by_hand(walk):
    """How much each flow is above the one back."""
    flows = exact(flows_of(walk))
    places = range(len(walk))
    return [[max(flows[i][j] - flows[j][i], 0) for j in places] for i in places]


def steps_by_hand(way):
    return [(way[at], way[(at + 1) % len(way)]) for at in range(len(way))]


def ways_by_hand(many):
    """All ways of so many places, in order."""
    return sorted(way for length in range(3, many + 1) for way in permutations(range(many), length)
                  if way[0] == min(way))


def random_turns(walk, source):
    """Turns found by going on anywhere, so that they often are others than those of the package."""
    rest, turns = excess_by_hand(walk), {}
    while any(any(row) for row in rest):
        gone, here = [], source.choice([i for i, row in enumerate(rest) if any(row)])
        while here not in gone:
            gone.append(here)
            here = source.choice([j for j, number in enumerate(rest[here]) if number])
        ring = gone[gone.index(here):]
        way = tuple(ring[ring.index(min(ring)):] + ring[:ring.index(min(ring))])
        number = min(rest[i][j] for i, j in steps_by_hand(way)) / source.choice((1, 1, 2))
        if len(turns) > 40:
            number = min(rest[i][j] for i, j in steps_by_hand(way))
        turns[way] = turns.get(way, 0) + number
        for i, j in steps_by_hand(way):
            rest[i][j] -= number
    return tuple((way, pair(turns[way])) for way in sorted(turns))


def one_way_walk(many, source):
    """A walk that goes only one way between each two places, and turns by all the ways that it has."""
    while True:
        ahead = [[source.random() < 0.5 for _ in range(many)] for _ in range(many)]
        ways = [way for way in ways_by_hand(many)
                if all(ahead[i][j] if i < j else not ahead[j][i] for i, j in steps_by_hand(way))]
        flows = [[0] * many for _ in range(many)]
        numbers = [(way, source.randint(1, 9)) for way in ways]
        for way, number in numbers:
            for i, j in steps_by_hand(way):
                flows[i][j] += number
        if all(sum(row) for row in flows) and is_walk(walk_of_rows(flows)):
            in_all = sum(sum(row) for row in flows)
            return walk_of_rows(flows), tuple((way, pair(Fraction(number, in_all))) for way, number in numbers)


def turned_round(turns):
    """Each turn the other way round, begun with its least place, in order."""
    return tuple(sorted(((way[0],) + way[:0:-1], number) for way, number in turns))


class TwoWayTest(unittest.TestCase):

    def test_the_lesser_flows(self):
        for walk in WALKS:
            told, flows = two_way(walk), exact(flows_of(walk))
            self.assertTrue(is_told_table(told, len(walk)))
            for i, j in product(range(len(walk)), repeat=2):
                self.assertEqual(told[i][j], pair(min(flows[i][j], flows[j][i])))

    def test_the_same_backwards(self):
        for walk in WALKS:
            self.assertEqual(two_way(backward(walk)), two_way(walk))

    def test_all_flows_exactly_if_alike(self):
        for walk in WALKS:
            self.assertIs(two_way(walk) == flows_of(walk), is_alike(walk))

    def test_few_places(self):
        self.assertEqual([two_way(ALONE), two_way(SWAP)], [((ONE,),), ((NIL, HALF), (HALF, NIL))])
        self.assertEqual([two_way(WHEEL), two_way(walk=SPIN)[0]], [((NIL,) * 3,) * 3, (NIL, NINTH, NINTH)])


class TurnsOfTest(unittest.TestCase):

    def test_form(self):
        for walk in WALKS:
            turns = turns_of(walk)
            self.assertIs(type(turns), tuple)
            ways = [way for way, _ in turns]
            self.assertEqual(ways, sorted(set(ways)))
            self.assertLessEqual(set(ways), set(ways_by_hand(len(walk))))
            self.assertTrue(all(type(turn) is tuple and is_told_fraction(turn[1]) for turn in turns))
            self.assertTrue(all(number > (0, 1) and exact(number) > 0 for _, number in turns))

    def test_with_the_two_way_part_they_make_the_flows(self):
        for walk in WALKS:
            made = exact(two_way(walk))
            for way, number in turns_of(walk):
                for i, j in steps_by_hand(way):
                    made[i][j] += exact(number)
            self.assertEqual(made, exact(flows_of(walk)))

    def test_at_most_as_many_as_steps_above_those_back(self):
        for walk in WALKS:
            above = sum(number > 0 for row in excess_by_hand(walk) for number in row)
            self.assertLessEqual(len(turns_of(walk)), above)

    def test_none_exactly_if_alike(self):
        for walk in WALKS:
            self.assertIs(turns_of(walk) == (), is_alike(walk))

    def test_they_are_turns(self):
        for walk in WALKS:
            self.assertIs(are_turns(walk, turns_of(walk)), True)

    def test_turned_round_they_are_turns_of_the_walk_backwards(self):
        for walk in WALKS:
            turns = turns_of(walk)
            self.assertIs(are_turns(backward(walk), turned_round(turns)), True)
            self.assertIs(are_turns(backward(walk), turns), turns == ())

    def test_few_places(self):
        self.assertEqual([turns_of(ALONE), turns_of(SWAP), turns_of(LEAN), turns_of(LINE)], [()] * 4)
        self.assertEqual([turns_of(SPIN), turns_of(walk=WHEEL)], [SPIN_TURNS, (((0, 1, 2), THIRD),)])
        self.assertEqual(turns_of(backward(SPIN)), (((0, 2, 1), NINTH),))
        for many in range(3, 7):
            walk = cycle_walk(many, Fraction(1, 2), Fraction(1, 3))
            self.assertEqual(turns_of(walk), ((tuple(range(many)), pair(Fraction(1, 6 * many))),))


class AreTurnsTest(unittest.TestCase):

    def test_other_turns(self):
        source, others = random.Random(8), 0
        for walk in WALKS[:-1]:
            for _ in range(3):
                turns = random_turns(walk, source)
                self.assertIs(are_turns(walk, turns), True)
                others += turns != turns_of(walk)
        self.assertGreater(others, 20)

    def test_more_than_are_needed(self):
        source = random.Random(9)
        for many in (4, 5, 6, 6, 6):
            walk, turns = one_way_walk(many, source)
            self.assertIs(are_turns(walk, turns), True)
            self.assertIs(are_turns(walk, turns[:-1]), False)
            self.assertIs(are_turns(walk, turns[1:]), False)
            self.assertIs(are_turns(walk, turns_of(walk)), True)

    def test_two_rings_in_one_of_eight(self):
        # Round 0, 1, 2 and round 0, 3, 4, or all of these in one go: not a way, as place 0 comes twice.
        walk = walk_of_rows([[0, 1, 0, 1, 0], [0, 0, 1, 0, 0], [1, 0, 0, 0, 0], [0, 0, 0, 0, 1], [1, 0, 0, 0, 0]])
        sixth = (1, 6)
        self.assertEqual(turns_of(walk), (((0, 1, 2), sixth), ((0, 3, 4), sixth)))
        self.assertIs(are_turns(walk, (((0, 1, 2, 0, 3, 4), sixth),)), False)
        self.assertIs(are_turns(walk, (((0, 3, 4), sixth), ((0, 1, 2), sixth))), False)

    def test_each_number_counts(self):
        for walk in WALKS:
            turns = turns_of(walk)
            for at, (way, number) in enumerate(turns):
                for other in (exact(number) * 2, exact(number) / 2, exact(number) + Fraction(1, 10 ** 30)):
                    self.assertIs(are_turns(walk, turns[:at] + ((way, pair(other)),) + turns[at + 1:]), False)
                self.assertIs(are_turns(walk, turns[:at] + turns[at + 1:]), False)

    def test_a_turn_too_many(self):
        for walk in WALKS:
            turns = turns_of(walk)
            for way in ways_by_hand(len(walk))[:30]:
                if way not in [other for other, _ in turns]:
                    self.assertIs(are_turns(walk, tuple(sorted(turns + ((way, NINTH),)))), False)

    def test_told_otherwise(self):
        half = pair(Fraction(1, 18))
        wrong = [
            (), SPIN_TURNS * 2, (((0, 1, 2), half), ((0, 1, 2), half)), (((1, 2, 0), NINTH),), (((2, 0, 1), NINTH),),
            (((0, 2, 1), NINTH),), (((0, 2, 1), (-1, 9)),), (((0, 1, 2), (2, 18)),), (((0, 1, 2), (-1, -9)),),
            (((0, 1, 2), (1, 10)),), (((0, 1, 2), NINTH), ((0, 2, 1), NIL)), (((0, 1), NIL), ((0, 1, 2), NINTH)),
            (((0, 1), NINTH),), (((0, 1, 2, 0), NINTH),), (((0, 1, 3), NINTH),), (((-3, -2, -1), NINTH),),
            (((False, 1, 2), NINTH),), (((0, True, 2), NINTH),), (((0, 1, 2), NINTH, NINTH),), (((0, 1, 2),),),
            ((0, 1, 2), NINTH), [((0, 1, 2), NINTH)], ([(0, 1, 2), NINTH],), (([0, 1, 2], NINTH),),
            (((0, 1, 2), [1, 9]),), (((0, 1, 2), (True, 9)),), (((0, 1, 2), 1),), (((0, 1, 2), None),),
            (((0, 1, 2), Fraction(1, 9)),), {(0, 1, 2): NINTH}, {((0, 1, 2), NINTH)}, (((), NINTH),), ((None, NINTH),),
            (({0, 1, 2}, NINTH),), (((0, 1, 2), {1, 9}),), ((b"\x00\x01\x02", NINTH),), (("012", NINTH),),
            (((0, 1, (2,)), NINTH),), (((0, 1, [2]), NINTH),), (((0, 1, None), NINTH),), (((0, 1, {2}), NINTH),),
            ((Odd(), NINTH),), ((nested(18), NINTH),), (((0, 1, 2), nested(18)),), (((0, 0, 1), NINTH),),
        ]
        for value in wrong + [value for value in ODD_VALUES if value != ()]:
            self.assertIs(are_turns(SPIN, value), False, value)
        for value in wrong[1:] + [value for value in ODD_VALUES if value != ()]:
            self.assertIs(are_turns(LINE, value), False, value)
            self.assertIs(are_turns(ALONE, value), False, value)
        self.assertEqual([are_turns(LINE, ()), are_turns(ALONE, ()), are_turns(SWAP, ())], [True] * 3)

    def test_by_name(self):
        self.assertEqual([are_turns(walk=SPIN, value=SPIN_TURNS), are_turns(value=(), walk=SPIN)], [True, False])


class ByTossTest(unittest.TestCase):

    def test_half_of_both(self):
        for walk in WALKS:
            told, table, other = by_toss(walk), exact(walk), exact(backward(walk))
            self.assertTrue(is_told_table(told, len(walk)))
            for i, j in product(range(len(walk)), repeat=2):
                self.assertEqual(told[i][j], pair((table[i][j] + other[i][j]) / 2))

    def test_alike_backwards_with_the_same_shares(self):
        for walk in WALKS:
            told = by_toss(walk)
            self.assertIs(is_walk(told), True)
            self.assertIs(is_alike(told), True)
            self.assertEqual(shares_of(told), shares_of(walk))
            self.assertIs(told == walk, is_alike(walk))
            self.assertEqual(by_toss(backward(walk)), told)

    def test_few_places(self):
        self.assertEqual([by_toss(ALONE), by_toss(SWAP), by_toss(LEAN)], [ALONE, SWAP, LEAN])
        self.assertEqual([by_toss(WHEEL), by_toss(walk=SPIN)[0]],
                         [((NIL, HALF, HALF), (HALF, NIL, HALF), (HALF, HALF, NIL)), (NIL, HALF, HALF)])


class WrongWalksTest(unittest.TestCase):

    def test_no_walk(self):
        wrong = [(), ((HALF,),), ((ONE, NIL), (HALF, HALF)), ((NIL, ONE, ONE), (ONE, NIL, ONE), (ONE, ONE, NIL)),
                 [list(row) for row in SPIN], (SPIN[0], SPIN[1], list(SPIN[2])), SPIN[:2], (((True, 1),),)]
        calls = (two_way, turns_of, by_toss, lambda walk: are_turns(walk, ()), lambda walk: are_turns(walk, None),
                 lambda walk: are_turns(value=SPIN_TURNS, walk=walk))
        check_given(self, InvalidWalk, calls, wrong + ODD_VALUES)


if __name__ == "__main__":
    unittest.main()
