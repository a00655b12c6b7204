"""The walk backwards, rings and their products, and which way time goes."""

import unittest
from fractions import Fraction
from itertools import permutations, product

from backwalks.backward import backward, is_alike, is_ring, products, unlike_ring
from backwalks.errors import InvalidRing, InvalidWalk
from backwalks.walks import flows_of, is_walk, seen_chance, shares_of
from tests.helpers import (ALONE, HALF, LEAN, LINE, MORE, NIL, ODD_VALUES, ONE, SPIN, SWAP, THIRD, WHEEL, Odd,
                           check_given, check_raises, cycle_walk, exact, is_told_fraction, is_told_table, large_walk,
                           many_walks, nearly_walks, nested, pair, rings_by_hand, walk_of_rows)

WALKS = many_walks()
SIX = tuple(tuple((1, 6) for _ in range(6)) for _ in range(6))

# Two rings have unlike products, the longer one stands first by its places: 0, 1, 2, 3 and 1, 2, 4.
TWO_RINGS = walk_of_rows([
    [1, 2, 0, 1, 0],
    [1, 1, 2, 0, 1],
    [0, 1, 1, 1, 2],
    [1, 0, 1, 1, 0],
    [0, 2, 1, 0, 1],
])

NO_RINGS = [
    (), (0,), (0, 1), (0, 1, 2, 0), (0, 0, 1), (0, 1, 1), (0, 2, 1), (1, 0, 2), (1, 2, 0), (2, 1, 0), (2, 0, 1),
    (0, 1, 6), (-1, 0, 1), (0, -1, 1), (0, 1, -1), (False, 1, 2), (0, True, 2), (0, 1, (2, 1)),
    [0, 1, 2], (0, 1, [2]), (0, 1, (2,)), (0, 1, "2"), (0, 1, None), "012", b"\x00\x01\x02", {0, 1, 2},
    {0: 1, 1: 2, 2: 0}, range(3), (0, 3, 1, 2), (1, 2, 3, 0), (0, 2, 3, 1), (0, 1, 2, 3, 4, 5, 6), (0, 1, 2, 1),
    (0, 1, {2}), (0, 1, Odd()), (0, 1, Fraction(2)), ((0, 1, 2),), (0, (1, 2)), (0, 1, nested(19)),
]


def is_alike_by_hand(walk):
    """Whether each two flows between two places are alike."""
    flows = exact(flows_of(walk))
    return all(flows[i][j] == flows[j][i] for i, j in product(range(len(walk)), repeat=2))


def products_by_hand(walk, ring):
    """The two products, each step looked up by itself."""
    table, around, back = exact(walk), Fraction(1), Fraction(1)
    for at, here in enumerate(ring):
        there = ring[(at + 1) % len(ring)]
        around *= table[here][there]
        back *= table[there][here]
    return (pair(around), pair(back))


class BackwardTest(unittest.TestCase):

    def test_chances(self):
        for walk in WALKS:
            told, flows, shares = backward(walk), exact(flows_of(walk)), exact(shares_of(walk))
            self.assertTrue(is_told_table(told, len(walk)))
            for i, j in product(range(len(walk)), repeat=2):
                self.assertEqual(told[i][j], pair(flows[j][i] / shares[i]))

    def test_a_walk_with_the_same_shares(self):
        for walk in WALKS:
            self.assertTrue(is_walk(backward(walk)))
            self.assertEqual(shares_of(backward(walk)), shares_of(walk))

    def test_backwards_twice(self):
        for walk in WALKS:
            self.assertEqual(backward(backward(walk)), walk)

    def test_rows_told_backwards(self):
        for walk in WALKS:
            other = backward(walk)
            for length in range(1, 4 if len(walk) < 5 else 3):
                for places in product(range(len(walk)), repeat=length):
                    self.assertEqual(seen_chance(other, places), seen_chance(walk, places[::-1]))
            places = tuple(range(len(walk))) * 3
            self.assertEqual(seen_chance(other, places), seen_chance(walk, places[::-1]))

    def test_few_places(self):
        self.assertEqual([backward(ALONE), backward(SWAP), backward(walk=LEAN)], [ALONE, SWAP, LEAN])
        self.assertEqual(backward(WHEEL), ((NIL, NIL, ONE), (ONE, NIL, NIL), (NIL, ONE, NIL)))

    def test_large_numbers(self):
        walk = large_walk(6)
        other = backward(walk)
        self.assertNotEqual(other, walk)
        self.assertTrue(is_walk(other))
        self.assertEqual(backward(other), walk)
        self.assertEqual(shares_of(other), shares_of(walk))
        self.assertEqual(unlike_ring(other), (0, 1, 2))
        self.assertEqual(products(other, (0, 1, 2)), products(walk, (0, 1, 2))[::-1])


class MainSentenceTest(unittest.TestCase):

    def test_alike_exactly_if_it_is_the_walk_backwards(self):
        for walk in WALKS:
            self.assertIs(is_alike(walk), backward(walk) == walk)

    def test_alike_exactly_if_the_flows_are(self):
        for walk in WALKS:
            self.assertIs(is_alike(walk), is_alike_by_hand(walk))

    def test_alike_exactly_if_rows_have_the_chance_of_those_told_backwards(self):
        for walk in WALKS:
            rows = [places for length in range(1, 4) for places in product(range(len(walk)), repeat=length)]
            alike = all(seen_chance(walk, places) == seen_chance(walk, places[::-1]) for places in rows)
            self.assertIs(is_alike(walk), alike)

    def test_alike_exactly_if_no_ring_has_unlike_products(self):
        for walk in WALKS:
            self.assertIs(is_alike(walk), unlike_ring(walk) is None)

    def test_both_kinds_are_there(self):
        for many in range(3, 7):
            told = [is_alike(walk) for walk in WALKS if len(walk) == many]
            self.assertGreater(told.count(True), 3)
            self.assertGreater(told.count(False), 3)

    def test_a_little_more_one_way(self):
        told = [is_alike(walk) for walk in nearly_walks()]
        self.assertIn(True, told)
        self.assertIn(False, told)

    def test_one_or_two_places(self):
        for walk in WALKS + [ALONE, SWAP, LEAN]:
            if len(walk) < 3:
                self.assertEqual([is_alike(walk), unlike_ring(walk)], [True, None])

    def test_by_name(self):
        self.assertEqual([is_alike(walk=SPIN), is_alike(walk=LINE), unlike_ring(walk=SPIN)], [False, True, (0, 1, 2)])


class IsRingTest(unittest.TestCase):

    def test_all_rows_of_unlike_places(self):
        for many in range(1, 7):
            walk, rings = cycle_walk(many, Fraction(1, 2), Fraction(1, 3)), rings_by_hand(many)
            for length in range(many + 1):
                for places in permutations(range(many), length):
                    self.assertIs(is_ring(walk, places), places in rings)

    def test_all_short_rows(self):
        for places in [row for length in range(5) for row in product(range(-1, 5), repeat=length)]:
            self.assertIs(is_ring(SIX, places), places in rings_by_hand(5))

    def test_no_rings(self):
        for value in NO_RINGS + ODD_VALUES:
            self.assertIs(is_ring(SIX, value), False, value)

    def test_places_of_this_walk_alone(self):
        self.assertEqual([is_ring(SPIN, (0, 1, 2)), is_ring(SPIN, (0, 1, 3)), is_ring(SPIN, (1, 2, 3))],
                         [True, False, False])
        self.assertEqual([is_ring(ALONE, (0, 0, 0)), is_ring(SWAP, (0, 1)), is_ring(SWAP, (0, 1, 2))], [False] * 3)

    def test_steps_need_not_be_there(self):
        self.assertEqual([is_ring(LINE, (0, 1, 2)), products(LINE, (0, 1, 2))], [True, (NIL, NIL)])

    def test_by_name(self):
        self.assertEqual([is_ring(walk=SPIN, value=(0, 1, 2)), is_ring(value=(0, 2, 1), walk=SPIN)], [True, False])

    def test_wrong_walk(self):
        for ring in ((0, 1, 2), None, ()):
            check_raises(self, InvalidWalk, {"given": None}, lambda: is_ring(None, ring))
            check_raises(self, InvalidWalk, {"given": ((HALF,),)}, lambda: is_ring(value=ring, walk=((HALF,),)))


class ProductsTest(unittest.TestCase):

    def test_all_rings(self):
        for walk in WALKS:
            for ring in rings_by_hand(len(walk)):
                told = products(walk, ring)
                self.assertIs(type(told), tuple)
                self.assertTrue(all(is_told_fraction(number) for number in told))
                self.assertEqual(told, products_by_hand(walk, ring))

    def test_one_way(self):
        self.assertEqual([products(WHEEL, (0, 1, 2)), products(backward(WHEEL), (0, 1, 2))], [(ONE, NIL), (NIL, ONE)])
        self.assertEqual(products(walk=SPIN, ring=(0, 1, 2)), ((8, 27), (1, 27)))
        self.assertEqual(products(ring=(0, 1, 2), walk=SPIN), ((8, 27), (1, 27)))

    def test_no_rings(self):
        for value in NO_RINGS + ODD_VALUES:
            check_raises(self, InvalidRing, {"given": value}, lambda: products(SIX, value))
        check_raises(self, InvalidRing, {"given": (0, 1, 3)}, lambda: products(ring=(0, 1, 3), walk=SPIN))
        given = [0, 1, 2]
        with self.assertRaises(InvalidRing) as caught:
            products(SPIN, given)
        self.assertIs(caught.exception.given, given)

    def test_two_wrong_arguments(self):
        for ring in ((0, 1, 2), (0, 2, 1), None, ()):
            check_raises(self, InvalidWalk, {"given": ()}, lambda: products((), ring))
            check_raises(self, InvalidWalk, {"given": ()}, lambda: products(ring=ring, walk=()))


class UnlikeRingTest(unittest.TestCase):

    def test_the_first_one(self):
        for walk in WALKS:
            unlike = [ring for ring in rings_by_hand(len(walk)) if len(set(products_by_hand(walk, ring))) == 2]
            self.assertEqual(unlike_ring(walk), (unlike + [None])[0])

    def test_long_rings_alone(self):
        for many in range(3, 7):
            walk = cycle_walk(many, Fraction(1, 2), Fraction(1, 3))
            self.assertEqual(unlike_ring(walk), tuple(range(many)))
            self.assertIsNone(unlike_ring(cycle_walk(many, Fraction(1, 3), Fraction(1, 3))))

    def test_shorter_ones_first(self):
        around, back = products(TWO_RINGS, (0, 1, 2, 3))
        self.assertNotEqual(around, back)
        self.assertEqual(unlike_ring(TWO_RINGS), (1, 2, 4))

    def test_in_order(self):
        found = {unlike_ring(walk) for walk in WALKS}
        self.assertGreater(len(found), 5)
        self.assertTrue(any(ring and ring[0] > 0 for ring in found))

    def test_it_is_a_ring_with_unlike_products(self):
        for walk in WALKS:
            ring = unlike_ring(walk)
            if ring is not None:
                self.assertIs(is_ring(walk, ring), True)
                around, back = products(walk, ring)
                self.assertNotEqual(around, back)


class WrongWalksTest(unittest.TestCase):

    def test_no_walk(self):
        wrong = [(), ((HALF,),), ((ONE, NIL), (HALF, HALF)), ((HALF, THIRD), (HALF, HALF)), (((2, 2),),),
                 (((True, 1),),), [list(row) for row in SPIN], list(SPIN),
                 tuple(tuple((1, 7) for _ in range(7)) for _ in range(7)),
                 (SPIN[0], SPIN[1], list(SPIN[2])), ((NIL, MORE, THIRD),), SPIN[:2], SPIN + SPIN[:1]]
        calls = (backward, is_alike, unlike_ring, lambda walk: is_ring(walk, (0, 1, 2)),
                 lambda walk: products(walk, (0, 1, 2)))
        check_given(self, InvalidWalk, calls, wrong + ODD_VALUES)


if __name__ == "__main__":
    unittest.main()
