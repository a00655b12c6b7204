"""The certificates: the claims that are so, with papers that the checker accepts."""

import random
import unittest
from collections import Counter
from fractions import Fraction
from itertools import combinations

from backwalks.apart import apart
from backwalks.backward import backward, is_alike, unlike_ring
from backwalks.certificates import certify_turns, certify_way
from backwalks.certifyseen import certify_rank, certify_seen, certify_sight
from backwalks.certifyweights import certify_apart, certify_places, certify_trees
from backwalks.checker import accepts
from backwalks.errors import (InvalidLot, InvalidNumber, InvalidPlaces, InvalidSighted, InvalidTies, InvalidWalk,
                              InvalidWeights, TooMany)
from backwalks.seen import both_ways, parting, rank, telling
from backwalks.trees import lot_chance
from backwalks.turning import are_turns
from backwalks.walks import is_walk
from backwalks.watched import parted_at
from tests.helpers import (ALONE, HALF, LEAN, LINE, MORE, NIL, ODD_VALUES, ONE, SPIN, SWAP, THIRD, WHEEL, Odd,
                           check_given, check_raises, large_walk, many_walks, nested, pair)
from tests.nets import (ALL_TIES, BARS, LET_TIES, LOOP, NO_WEIGHTS, RING, STAR, TIE, large_weights, many_weights,
                        ties_by_hand)
from tests.papers import accepts_by_hand
from tests.test_apart import ALL_ENDS
from tests.test_glasses import NO_SIGHTED
from tests.test_trees import ties_left_out
from tests.test_walks import NO_WALKS
from tests.test_watched import NO_LOTS
from tests.views import CLEAR, DIM, doubled, many_sighted, moved, one_moved

WALKS, WEIGHTS, SIGHTED = many_walks(), many_weights(), many_sighted()
NO_FRACTIONS = [None, True, False, 0, 1, -3, "1", b"1", (), (1,), (1, 1, 1), (2, 2), (0, 2), (1, 0), (1, -1), (0, 0),
                (True, 1), (1, True), [1, 1], {1: 1}, {1}, ("1", "1"), ((1, 1),), Fraction(1), Odd(), nested(20), 1j]


class CertificateCase(unittest.TestCase):

    def check(self, told, words, given, by_hand=True):
        """The claim is of one of the words, with the arguments as they were passed, and the paper one for it."""
        self.assertIs(type(told), tuple)
        claim, paper = told
        self.assertIs(type(claim), tuple)
        self.assertIn(claim[0], words)
        for part, argument in zip(claim[1:], given):
            self.assertIs(part, argument)
        self.assertIs(accepts(claim, paper), True)
        if by_hand:
            self.assertIs(accepts_by_hand(claim, paper), True)
        # What excludes it is not accepted with its paper, nor it with none.
        for word in words:
            if word != claim[0]:
                self.assertIs(accepts((word,) + claim[1:], paper), False)
        return claim, paper


class WayTest(CertificateCase):

    def test_way(self):
        for walk in WALKS + [large_walk(3)]:
            claim, paper = self.check(certify_way(walk), ("alike", "unlike"), (walk,))
            self.assertEqual(claim, ("alike" if is_alike(walk) else "unlike", walk))
        for walk in (ALONE, SWAP, LEAN, LINE):
            self.assertEqual(certify_way(walk=walk)[0], ("alike", walk))
        claim, paper = certify_way(SPIN)
        self.assertEqual([claim, paper], [("unlike", SPIN), (0, 1, 2)])
        self.assertEqual(unlike_ring(SPIN), (0, 1, 2))

    def test_turns(self):
        for walk in WALKS:
            claim, paper = self.check(certify_turns(walk), ("turns",), (walk,))
            self.assertEqual([len(claim), paper], [3, ()])
            self.assertIs(are_turns(walk, claim[2]), True)
        self.assertEqual([certify_turns(walk=SPIN), certify_turns(LINE)],
                         [(("turns", SPIN, (((0, 1, 2), (1, 9)),)), ()), (("turns", LINE, ()), ())])

    def test_no_walks(self):
        for call in (certify_way, certify_turns):
            check_given(self, InvalidWalk, (call, lambda value: call(walk=value)), NO_WALKS + ODD_VALUES)


class ApartTest(CertificateCase):

    def test_all_places(self):
        told = Counter()
        for weights in WEIGHTS:
            ends = [(i, j) for i in range(len(weights)) for j in range(len(weights)) if i != j]
            for one, two in random.Random(len(ends)).sample(ends, min(len(ends), 4)):
                far, tiny = Fraction(*apart(weights, one, two)), Fraction(1, 10 ** 50)
                for number in (far, far - tiny, far + tiny, Fraction(0), -far, far * 2):
                    number = pair(number)
                    claim, _ = self.check(certify_apart(weights, one, two, number), ("within", "beyond"),
                                          (weights, one, two, number), by_hand=len(weights) < 5)
                    self.assertEqual(claim,
                    ("within" if far <= Fraction(*number) else "beyond", weights, one, two, number))
                    told[claim[0]] += 1
        self.assertGreater(min(told.values()), 300)

    def test_few_places(self):
        claim, paper = certify_apart(RING, 0, 1, MORE)
        self.assertEqual(claim, ("within", RING, 0, 1, MORE))
        self.assertEqual(paper, ((NIL, MORE, THIRD), ((-2, 3), NIL, (-1, 3)), ((-1, 3), THIRD, NIL)))
        claim, paper = certify_apart(number=HALF, two=1, one=0, weights=RING)
        self.assertEqual([claim, paper], [("beyond", RING, 0, 1, HALF), (ONE, NIL, HALF)])
        self.assertEqual(certify_apart(TIE, 1, 0, NIL), (("beyond", TIE, 1, 0, NIL), (NIL, ONE)))

    def test_wrong_arguments(self):
        for one, two, number in ((0, 1, ONE), (None, None, None), (1, 1, ONE)):
            calls = (lambda value: certify_apart(value, one, two, number),
                     lambda value: certify_apart(number=number, two=two, one=one, weights=value))
            check_given(self, InvalidWeights, calls, NO_WEIGHTS + ODD_VALUES + [SPIN])
        for value in ALL_ENDS:
            for other, number in ((1, ONE), (None, None), (value, ONE)):
                check_raises(self, InvalidNumber, {"given": value}, lambda: certify_apart(RING, value, other, number))
            for number in (ONE, None):
                check_raises(self, InvalidNumber, {"given": value}, lambda: certify_apart(RING, 1, value, number))
        for value in NO_FRACTIONS:
            check_raises(self, InvalidNumber, {"given": value}, lambda: certify_apart(RING, 1, 0, value))
            check_raises(self, InvalidNumber, {"given": value},
                         lambda: certify_apart(number=value, one=2, two=0, weights=RING))
        for number in (ONE, None, NIL):
            check_raises(self, InvalidNumber, {"given": 2}, lambda: certify_apart(RING, 2, 2, number))
            check_raises(self, InvalidNumber, {"given": 0}, lambda: certify_apart(LOOP, 0, 0, number))
            check_raises(self, InvalidNumber, {"given": 7}, lambda: certify_apart(RING, 7, 7, number))


class TreesTest(CertificateCase):

    def test_lots(self):
        source = random.Random(121)
        for weights in WEIGHTS + [large_weights(4)]:
            ties = ties_by_hand(weights)
            if weights == ALL_TIES:
                continue
            sizes = [min(len(ties), size) for size in (0, 1, 2, 3, len(ties))]
            for lot in [tuple(sorted(source.sample(ties, size))) for size in sizes]:
                try:
                    told = certify_trees(weights, lot)
                except TooMany as error:
                    self.assertGreater(error.given, 400)
                    continue
                claim, _ = self.check(told, ("in trees",), (weights, lot), by_hand=len(weights) < 5)
                self.assertEqual(claim, ("in trees", weights, lot, lot_chance(weights, lot)))

    def test_few_places(self):
        self.assertEqual(certify_trees(RING, ((0, 1),)), (("in trees", RING, ((0, 1),), MORE),
                                                          (((0, 1), (0, 2)), ((0, 1), (1, 2)))))
        self.assertEqual(certify_trees(ties=(), weights=LOOP), (("in trees", LOOP, (), ONE), ((),)))
        self.assertEqual(certify_trees(RING, ((0, 1), (0, 2), (1, 2))),
                         (("in trees", RING, ((0, 1), (0, 2), (1, 2)), NIL), ()))

    def test_too_many(self):
        for ties, many in (((), 384), (((0, 1),), None)):
            claim, paper = self.check(certify_trees(LET_TIES, ties), ("in trees",), (LET_TIES, ties))
            self.assertEqual(len(paper), many or len(paper))
        weights = ties_left_out(6, [(0, 1), (0, 2)])
        for told, many in ((ALL_TIES, 1296), (large_weights(6), 1296), (weights, 540)):
            for ties in ((), ((1, 2),), ((1, 2), (1, 3), (2, 3))):
                check_raises(self, TooMany, {"given": many}, lambda: certify_trees(told, ties))
            # what is wrong in ties comes first
            check_raises(self, InvalidTies, {"index": 0}, lambda: certify_trees(told, ((1, 1),)))
            check_raises(self, InvalidTies, {"index": None}, lambda: certify_trees(told, None))

    def test_wrong_arguments(self):
        for ties in ((), None, ((0, 1), (0, 1))):
            calls = (lambda value: certify_trees(value, ties), lambda value: certify_trees(ties=ties, weights=value))
            check_given(self, InvalidWeights, calls, NO_WEIGHTS + ODD_VALUES + [SPIN])
        for value, index in ((None, None), ([(0, 1)], None), ({(0, 1)}, None), (((1, 0),), 0), (((0, 1), (0, 1)), 1),
                             (((0, 1), (0, 2), (1, 3)), 2), (((0, True),), 0), (((0, 1), [0, 2]), 1)):
            check_raises(self, InvalidTies, {"index": index}, lambda: certify_trees(RING, value))
            check_raises(self, InvalidTies, {"index": index}, lambda: certify_trees(ties=value, weights=RING))


class PlacesTest(CertificateCase):

    def test_lots(self):
        source, told = random.Random(122), Counter()
        for weights in WEIGHTS[::2] + [RING, STAR]:
            for other in source.sample(WEIGHTS, 3) + [weights, STAR]:
                size = source.randint(1, min(len(weights), len(other)))
                lot = tuple(sorted(source.sample(range(len(weights)), size)))
                row = lot if other is weights else tuple(source.sample(range(len(other)), size))
                given = (weights, lot, other, row)
                claim, paper = self.check(certify_places(*given), ("alike at", "unlike at"), given, len(weights) < 5)
                pair_told = parted_at(*given)
                self.assertEqual((claim[0], paper), ("alike at", ()) if pair_told is None else ("unlike at", pair_told))
                told[claim[0]] += 1
        self.assertGreater(min(told.values()), 30)

    def test_few_places(self):
        self.assertEqual(certify_places(RING, (0, 1, 2), STAR, (2, 0, 1)),
                         (("alike at", RING, (0, 1, 2), STAR, (2, 0, 1)), ()))
        self.assertEqual(certify_places(row=(0, 3), other=STAR, lot=(0, 1), weights=RING),
                         (("unlike at", RING, (0, 1), STAR, (0, 3)), (0, 1)))

    def test_wrong_arguments(self):
        calls = (lambda value: certify_places(value, None, None, None), lambda value: certify_places(RING,
        (0,), value, None),
                 lambda value: certify_places(row=(0,), other=STAR, lot=(0,), weights=value))
        check_given(self, InvalidWeights, calls, NO_WEIGHTS + ODD_VALUES + [SPIN])
        calls = (lambda lot: certify_places(RING, lot, STAR, (0,)), lambda lot: certify_places(RING, lot, None, None))
        check_given(self, InvalidLot, calls, NO_LOTS + ODD_VALUES)
        for value, index in ((None, None), ((0,), None), ([0, 1], None), ((4, 0), 0), ((0, 0), 1), ((0, True), 1)):
            check_raises(self, InvalidPlaces, {"index": index}, lambda: certify_places(RING, (0, 2), STAR, value))


class SeenTest(CertificateCase):

    def test_seen(self):
        source, told = random.Random(123), Counter()
        for sighted in SIGHTED:
            many = len(sighted[0])
            others = [sighted, moved(sighted, source.sample(range(many), many)), (backward(sighted[0]), sighted[1]),
                      source.choice([each for each in SIGHTED if max(each[1]) == max(sighted[1])])]
            if many < 6:
                others.append(doubled(sighted, source.randrange(many), Fraction(2, 7)))
            if many > 1:
                others.append(one_moved(sighted, source, Fraction(1, 10 ** 40)))
            for other in source.sample(others, 2):
                if is_walk(other[0]):
                    claim, paper = self.check(certify_seen(sighted, other), ("seen alike", "seen unlike"),
                    (sighted, other))
                    row = parting(sighted, other)
                    self.assertEqual(claim[0], "seen alike" if row is None else "seen unlike")
                    if row is not None:
                        self.assertEqual(paper, row)
                    told[claim[0]] += 1
        self.assertGreater(min(told.values()), 60)

    def test_sight(self):
        told = Counter()
        for sighted in SIGHTED:
            claim, paper = self.check(certify_sight(sighted), ("seen both ways", "seen one way"), (sighted,))
            self.assertEqual(claim[0], "seen both ways" if both_ways(sighted) else "seen one way")
            if claim[0] == "seen one way":
                self.assertEqual(paper, telling(sighted))
            told[claim[0]] += 1
        self.assertGreater(min(told.values()), 40)

    def test_rank(self):
        for sighted in SIGHTED:
            claim, _ = self.check(certify_rank(sighted), ("needs",), (sighted,), by_hand=len(sighted[0]) < 5)
            self.assertEqual(claim, ("needs", sighted, rank(sighted)))

    def test_few_places(self):
        coin, alone = (((HALF, HALF), (HALF, HALF)), (0, 0)), (ALONE, (0,))
        self.assertEqual(certify_seen(coin, alone), (("seen alike", coin, alone), (((),), (((ONE,),),))))
        self.assertEqual(certify_seen(other=(WHEEL, (0, 2, 1)), one=CLEAR),
                         (("seen unlike", CLEAR, (WHEEL, (0, 2, 1))), (0, 1)))
        self.assertEqual(certify_sight(sighted=CLEAR), (("seen one way", CLEAR), (0, 1)))
        self.assertEqual(certify_rank(sighted=DIM), (("needs", DIM, 3), (((), (0,), (0, 0)), ((), (0,), (0, 0)))))
        claim, (rows, parts) = certify_sight(DIM)
        self.assertEqual([claim, rows[0], len(parts), len(parts[0])], [("seen both ways", DIM), (), len(rows), 2])

    def test_large_numbers(self):
        for sighted in ((large_walk(3), (0, 1, 1)), (large_walk(4), (0, 0, 0, 0)), (large_walk(2), (0, 1))):
            for told in (certify_seen(sighted, sighted), certify_sight(sighted), certify_rank(sighted)):
                self.assertIs(accepts(*told), True)

    def test_wrong_arguments(self):
        for call in (certify_sight, certify_rank):
            check_given(self, InvalidSighted, (call, lambda value: call(sighted=value)), NO_SIGHTED + ODD_VALUES)
        for other in (CLEAR, None):
            calls = (lambda value: certify_seen(value, other), lambda value: certify_seen(other=other, one=value))
            check_given(self, InvalidSighted, calls, NO_SIGHTED + ODD_VALUES)
        calls = (lambda value: certify_seen(CLEAR, value), lambda value: certify_seen(other=value, one=CLEAR))
        check_given(self, InvalidSighted, calls, NO_SIGHTED + ODD_VALUES + [DIM, (ALONE, (0,))])


class ManyTest(CertificateCase):

    def test_all_pairs_of_weights_at_all_places(self):
        for weights, other in combinations([BARS, RING, TIE, STAR], 2):
            size = min(len(weights), len(other))
            for lot in combinations(range(len(weights)), size):
                given = (weights, lot, other, tuple(range(size)))
                self.check(certify_places(*given), ("alike at", "unlike at"), given)


if __name__ == "__main__":
    unittest.main()
