"""The checker: claims that are so with their papers, claims that are not, and all that is none."""

import random
import unittest
from collections import Counter
from fractions import Fraction

from backwalks.apart import driven_flow, driving_heights
from backwalks.backward import backward
from backwalks.certifyseen import basis_paper, certify_rank
from backwalks.checker import accepts
from backwalks.seen import heads, parting, tails, telling
from backwalks.trees import trees_with
from backwalks.turning import by_toss
from backwalks.walks import flows_of, shares_of
from backwalks.weights import walk_of
from tests.helpers import (ALONE, HALF, LEAN, LINE, MORE, NIL, ODD_VALUES, ONE, SPIN, SWAP, THIRD, WHEEL, Odd,
                           large_walk, many_walks, nested, pair, rings_by_hand)
from tests.nets import ALL_TIES, BARS, LET_TIES, LOOP, RING, STAR, TIE, TWO, large_weights, many_weights
from tests.papers import BY_HAND, accepts_by_hand
from tests.rights import FOUR, NETS, SQUARE, WALKS, all_rights, bent, is_small, many_marks, path_flow
from tests.views import CLEAR, DIM, many_sighted

RIGHTS = all_rights()
# Pairs of words of which just one is so of the same parts.
UNLIKE_WORDS = [("alike", "unlike"), ("within", "beyond"), ("alike at", "unlike at"), ("seen alike", "seen unlike"),
                ("seen both ways", "seen one way")]
TINY = Fraction(1, 10 ** 45)


class CheckerCase(unittest.TestCase):

    def check(self, claim, paper, expected):
        self.assertIs(accepts(claim, paper), expected, (claim, paper))

    def check_by_hand(self, claim, paper):
        expected = accepts_by_hand(claim, paper)
        self.check(claim, paper, expected)
        return expected


class RightsTest(CheckerCase):

    def test_what_is_so(self):
        told = Counter()
        for claim, paper in RIGHTS:
            self.assertIs(accepts_by_hand(claim, paper), True, (claim, paper))
            self.check(claim, paper, True)
            self.assertIs(accepts(paper=paper, claim=claim), True)
            told[claim[0]] += 1
        self.assertEqual(sorted(told), sorted(BY_HAND))
        self.assertGreater(min(told.values()), 4)

    def test_bent(self):
        source, told = random.Random(111), Counter()
        for claim, paper in RIGHTS:
            if is_small(claim, paper):
                for _ in range(30):
                    if source.random() < 0.5:
                        told[self.check_by_hand(claim, bent(source, paper))] += 1
                    else:
                        told[self.check_by_hand(bent(source, claim), paper)] += 1
        self.assertGreater(told[False], 10000)

    def test_claim_and_paper_bent(self):
        source = random.Random(112)
        for claim, paper in RIGHTS:
            if is_small(claim, paper):
                for _ in range(4):
                    self.check_by_hand(bent(source, claim), bent(source, paper))

    def test_other_words(self):
        for claim, paper in RIGHTS:
            for word in [*BY_HAND, "", "Alike", "alike ", "seen", "both ways", "told"]:
                if is_small(claim, paper) and word != claim[0]:
                    self.check_by_hand((word,) + claim[1:], paper)

    def test_papers_of_other_claims(self):
        source = random.Random(113)
        small = [(claim, paper) for claim, paper in RIGHTS if is_small(claim, paper)]
        papers = sorted({paper for _, paper in small}, key=repr)
        for claim, _ in small:
            for paper in source.sample(papers, 20):
                self.check_by_hand(claim, paper)
        for word, other in UNLIKE_WORDS:
            for first, second in ((word, other), (other, word)):
                for parts in sorted({claim[1:] for claim, _ in small if claim[0] == first}, key=repr):
                    # What is so is accepted; what excludes it is not, whatever the paper.
                    for paper in papers:
                        self.check((second,) + parts, paper, False)

    def test_no_claims(self):
        for value in ODD_VALUES + [("alike",), ("alike", LEAN, LEAN), ("shares", LEAN), (LEAN, "alike"),
        ["alike", LEAN],
                                   "alike", {"alike": LEAN}, (b"alike", LEAN), (("alike",), LEAN), ([], LEAN),
                                   ({}, LEAN),
                                   (None, LEAN), (True, LEAN), (0, LEAN), (Odd(), LEAN), ("alike", LEAN, ()),
                                   ("needs", CLEAR),
                                   ({"alike"}, LEAN), ("told by none",), ("reads",), (nested(19), LEAN)]:
            for paper in [(), None, flows_of(LEAN), value]:
                self.check(value, paper, False)

    def test_odd_values(self):
        shown = {}
        for claim, paper in RIGHTS:
            shown.setdefault(claim[0], []).append((claim, paper))
        for word, pairs in shown.items():
            for claim, paper in pairs[:2]:
                for value in ODD_VALUES:
                    self.check(claim, value, accepts_by_hand(claim, value))
                    self.check(value, paper, False)
                    for at in range(1, len(claim)):
                        self.check_by_hand(claim[:at] + (value,) + claim[at + 1:], paper)
                    for at in range(len(paper)):
                        self.check_by_hand(claim, paper[:at] + (value,) + paper[at + 1:])

    def test_arguments_are_not_changed(self):
        for claim, paper in RIGHTS:
            before = repr((claim, paper))
            accepts(claim, paper)
            self.assertEqual(repr((claim, paper)), before)
        given, paper = ["alike", [[ONE]]], [[ONE]]
        self.check(tuple(given), paper, False)
        self.assertEqual([given, paper], [["alike", [[ONE]]], [[ONE]]])


class WaysTest(CheckerCase):

    def test_just_one_word(self):
        for walk in many_walks():
            flows, toss = flows_of(walk), flows_of(by_toss(walk))
            even = accepts(("alike", walk), flows)
            self.assertIs(even, backward(walk) == walk)
            rings = [ring for ring in rings_by_hand(len(walk)) if accepts(("unlike", walk), ring)]
            self.assertIs(len(rings) > 0, not even)
            for paper in (toss, walk, flows_of(backward(walk))):
                self.check_by_hand(("alike", walk), paper)

    def test_shares_and_walks_backwards(self):
        for walk in many_walks()[::3]:
            even = (pair(Fraction(1, len(walk))),) * len(walk)
            self.check_by_hand(("shares", walk, even), ())
            self.check_by_hand(("backwards", walk, walk), ())
            self.check(("backwards", backward(walk), walk), (), True)
            self.check(("shares", backward(walk), shares_of(walk)), (), True)
        self.check(("backwards", WHEEL, (WHEEL[1], WHEEL[2], WHEEL[0])), (), True)

    def test_one_number_a_little_beside(self):
        for walk in WALKS[1:]:
            told = [Fraction(*share) for share in shares_of(walk)]
            told[0], told[1] = told[0] + TINY, told[1] - TINY
            self.check(("shares", walk, tuple(pair(number) for number in told)), (), False)
        turns = (((0, 1, 2), (1, 9)),)
        self.check(("turns", SPIN, turns), (), True)
        self.check(("turns", SPIN, (((0, 1, 2), pair(Fraction(1, 9) + TINY)),)), (), False)
        self.check(("turns", SPIN, ()), (), False)

    def test_fitted_to_what_is_not_whole(self):
        # From place 1 no step leads back: fitted, no walk is left.
        shares = (THIRD, THIRD, THIRD)
        for other in (WHEEL, SPIN, LINE, ((ONE, NIL, NIL), (NIL, ONE, NIL), (NIL, NIL, ONE))):
            self.check(("fits", WHEEL, shares, other), (), False)


class ApartTest(CheckerCase):

    def test_edges(self):
        for weights, one, two in ((RING, 0, 1), (STAR, 3, 1), (SQUARE, 0, 2), (LET_TIES, 0, 5),
        (large_weights(3), 0, 2)):
            heights = driving_heights(weights, one, two)
            flow, cost = driven_flow(weights, heights), Fraction(*heights[one])
            even = tuple(pair(Fraction(*height) / cost) for height in heights)
            for more in (-TINY, Fraction(0), TINY):
                number = pair(cost + more)
                self.check(("within", weights, one, two, number), flow, more >= 0)
                self.check(("beyond", weights, one, two, number), even, more < 0)
                self.check(("apart", weights, one, two, number), (flow, even), more == 0)
            self.check(("within", weights, two, one, pair(cost)), flow, False)
            self.check(("beyond", weights, two, one, NIL), even, False)

    def test_other_flows_and_heights(self):
        for number, expected in (((1, 1), True), ((2, 3), False), (pair(1 - TINY), False), ((2, 1), True)):
            self.check(("within", RING, 0, 1, number), path_flow(3, (0, 1)), expected)
        for number, expected in (((1, 2), False), (pair(Fraction(1, 2) - TINY), True), (NIL, True), ((-1, 1), True)):
            self.check(("beyond", RING, 0, 1, number), (ONE, NIL, NIL), expected)
        self.check(("within", STAR, 0, 1, (2, 3)), path_flow(4, (0, 3, 1)), True)
        self.check(("within", STAR, 0, 1, (9, 1)), path_flow(4, (0, 1)), False)
        self.check(("apart", RING, 0, 1, ONE), (path_flow(3, (0, 1)), (ONE, NIL, HALF)), False)

    def test_one_place_and_itself(self):
        for word in ("within", "beyond", "apart"):
            for number in (NIL, ONE, (-1, 1)):
                for paper in (((NIL,),), (NIL,), (ONE,), (((NIL,),), (NIL,)), ()):
                    self.check((word, LOOP, 0, 0, number), paper, False)
                    self.check((word, TIE, 1, 1, number), (NIL, ONE), False)

    def test_trees(self):
        # Of all ties there are more trees than are listed; few of them have these ties, none all of a ring's.
        for ties, many in ((((0, 1), (0, 2), (0, 3), (1, 4), (1, 5)), 1), (((0, 1), (2, 3)), 144),
                           (((0, 1), (0, 2), (1, 2)), 0), (((4, 5),), 432)):
            trees = trees_with(ALL_TIES, ties)
            self.assertEqual(len(trees), many)
            self.check(("in trees", ALL_TIES, ties, pair(Fraction(many, 1296))), trees, True)
            self.check(("in trees", ALL_TIES, ties, pair(Fraction(many + 1, 1296))), trees, False)
            self.check(("in trees", ALL_TIES, ties, pair(Fraction(many, 1296))), trees + trees[:1], many == 0)
        self.check(("in trees", LOOP, (), ONE), ((),), True)
        self.check(("in trees", LOOP, (), ONE), (), False)
        self.check(("in trees", LET_TIES, (), ONE), trees_with(LET_TIES, ()), True)
        self.check(("in trees", LET_TIES, (), ONE), trees_with(LET_TIES, ())[1:], False)
        self.check(("in trees", RING, ((0, 1),), MORE), (((0, 1), (0, 2)), ((0, 1), (1, 2))), True)
        self.check(("in trees", RING, ((0, 1),), MORE), (((0, 1), (1, 2)), ((0, 1), (0, 2))), False)
        self.check(("in trees", RING, ((0, 1),), MORE), (((0, True), (0, 2)), ((0, 1), (1, 2))), False)
        self.check(("in trees", RING, ((0, 2), (0, 1)), THIRD), (((0, 1), (0, 2)),), False)

    def test_pairs_that_part(self):
        at = ("unlike at", STAR, (0, 1, 2, 3), SQUARE, (3, 1, 0, 2))
        told = [(i, j) for i in range(4) for j in range(4) if accepts(at, (i, j))]
        self.assertGreater(len(told), 2)
        self.assertTrue(all(i < j for i, j in told))
        for paper in ((1, 0), (0, 0), (0, 4), (-1, 1), (0, 1, 2), (0,), [0, 1], (False, True), ((0, 1),), (0, "1")):
            self.check(at, paper, False)

    def test_tables(self):
        for weights in NETS:
            if len(weights) > 1:
                self.check_by_hand(("told by none", weights), ())
        self.check(("told by none", ((HALF,),)), (), True)
        self.check(("told by none", ((TIE[0][0], TWO), (TWO, NIL))), (), False)
        self.check(("told by", ((NIL, TWO), (TWO, NIL)), TIE), (), True)
        self.check(("told by", ((NIL, TWO), (TWO, NIL)), ((NIL, HALF), (HALF, ONE))), (), False)
        self.check(("told by", ((NIL, pair(2 + TINY)), (pair(2 + TINY), NIL)), TIE), (), False)
        for table in ((), ((),), ((NIL, ONE),), [(NIL,)], ((NIL, ONE), (ONE,)), ((0,),), ((True,),), (((1, True),),),
                      tuple(((NIL,) * 7,) * 7)):
            self.check(("told by none", table), (), False)


class SeenTest(CheckerCase):

    def test_just_one_word(self):
        for sighted in many_sighted()[::2]:
            back = (backward(sighted[0]), sighted[1])
            row = telling(sighted)
            if row is None:
                self.check(("seen both ways", sighted), basis_paper(sighted, back), True)
            else:
                # The states of the basis are not 0 in all: of what is unlike there is no such paper.
                self.check(("seen one way", sighted), row, True)
                self.check(("seen one way", sighted), row[::-1], True)
                self.check(("seen both ways", sighted), basis_paper(sighted, back), False)
                self.check(("seen alike", sighted, back), basis_paper(sighted, back), False)

    def test_rows_of_many_marks(self):
        one, other = (LEAN, (0, 0)), (ALONE, (0,))
        for many in (40, 41, 60):
            self.check(("seen alike", one, other), many_marks(many), True)
            self.check(("seen both ways", one), (many_marks(many)[0], many_marks(many)[1][:-1]), False)
        for many, expected in ((40, True), (41, False)):
            told = ((0, 0, 1) * 14)[:many]
            self.check(("row", DIM, told, THIRD), (), expected)
            self.check(("seen one way", CLEAR), ((0, 1, 2) * 14)[:many], expected)
            self.check(("seen unlike", CLEAR, (backward(WHEEL), (0, 1, 2))), ((0, 1, 2) * 14)[:many], expected)
        for many, expected in ((20, True), (21, False)):
            told = ((0, 1, 2) * 7)[:many]
            self.check(("needs", CLEAR, 1), ((told,), ((),)), expected)
            self.check(("needs", CLEAR, 1), (((),), (told,)), expected)

    def test_rows_that_are_no_growing_ones(self):
        one, other = (LEAN, (0, 0)), (ALONE, (0,))
        part = ((ONE, NIL),)
        for rows, expected in ((((), (0,)), True), (((0,), ()), False), (((), ()), False), (((), (0, 0)), False),
                               (((), (1,)), False), (((), (False,)), False), (((), 0), False), (((), [0]), False),
                               ([(), (0,)], False), (((), (0,), (0, 0)), False), (((),), False), ((), False),
                               (None, False)):
            self.check(("seen alike", one, other), (rows, (part, part)), expected)
        for rows in (((0,),), ((0,), (0, 0)), ((0, 0),), ((0,), (0,))):
            even = ((tuple(pair(Fraction(1, len(rows))) for _ in rows),),) * len(rows)
            self.check(("seen alike", one, other), (rows, even), False)
        # The same row told twice is one of those ahead and a mark, too.
        part = ((NIL, HALF, HALF),)
        self.check(("seen alike", one, other), (((), (0,), (0,)), (part, part, part)), True)
        self.check(("seen alike", one, other), (((), (0,), (0,)), (part, part)), False)
        self.check(("seen alike", one, other), (((), (0,), (0,)), (part, part, ((NIL, HALF, THIRD),))), False)
        self.check(("seen alike", one, other), (((),), (((ONE,),),)), True)
        self.check(("seen alike", one, other), ((), ()), False)

    def test_unlike_numbers_of_marks(self):
        for paper in ((), (0,), (((),), (((ONE,),),)), ((), ())):
            for word in ("seen alike", "seen unlike"):
                self.check((word, CLEAR, DIM), paper, False)
                self.check((word, (LEAN, (0, 1)), (ALONE, (0,))), paper, False)

    def test_ranks(self):
        for sighted in many_sighted()[::4]:
            (_, _, size), (first, second) = certify_rank(sighted)
            self.check(("needs", sighted, size), (first[::-1], second), True)
            for less in range(size):
                self.check_by_hand(("needs", sighted, less), (first[:less], second[:less]))
            for more in range(size, 7):
                self.check(("needs", sighted, more + 1), (first + first[:1], second + second[:1]), False)
                self.check(("needs", sighted, more + 1), (first, second), False)
        for size in (7, -1, True, False, None, "0", (0,)):
            self.check(("needs", CLEAR, size), ((), ()), False)
        self.check(("needs", CLEAR, 0), ((), ()), True)
        self.check(("needs", CLEAR, 3), (heads(CLEAR), tails(CLEAR)), True)
        self.check(("needs", (WHEEL, (0, 0, 0)), 2), (((), (0,)), ((), (0,))), False)

    def test_very_small_differences(self):
        walk = ((pair(Fraction(1, 2) + TINY), pair(Fraction(1, 2) - TINY)), (HALF, HALF))
        coin = ((HALF, HALF), (HALF, HALF))
        one, other = (walk, (0, 1)), (coin, (0, 1))
        self.check(("seen unlike", one, other), (0,), True)
        self.check(("seen alike", one, other), basis_paper(one, other), False)
        self.check(("seen alike", one, one), basis_paper(one, one), True)
        self.assertEqual(parting(one, other), (0,))
        self.check(("row", other, (0, 1), (1, 4)), (), True)
        self.check(("row", one, (0, 1), (1, 4)), (), False)


class ReadsTest(CheckerCase):

    def test_texts(self):
        text, names = "walk\nplaces a b\nb: a 1\na: b 1\n= b", ("a", "b")
        self.check(("reads", text, ("walk", SWAP, (1, 0), names)), (), True)
        for told in (("walk", SWAP, (True, 0), names), ("walk", SWAP, (1, False), names), ("walk", SWAP, (0, 1), names),
                     ("walk", (((0, True), ONE), (ONE, NIL)), (1, 0), names), ("walk", SWAP, (1, 0), ("b", "a")),
                     ("walk", SWAP, None, names), ("weights", SWAP, (1, 0), names), ("walk", SWAP, (1, 0)),
                     ["walk", SWAP, (1, 0), names], ("walk", SWAP, (1, 0), ["a", "b"]), None, text):
            self.check(("reads", text, told), (), False)
        for wrong in (text + "\n", text[:-1], "walk", "", text.encode(), None, text.replace("b: a 1", "b: a 2")):
            self.check(("reads", wrong, ("walk", SWAP, (1, 0), names)), (), False)
        # What reads otherwise, and tells the same.
        for other in (text.replace("b: a 1", "b: a rest"), text.replace("a: b 1", "a: a 0/3, b 7/7"), text + "; a"):
            self.check(("reads", other, ("walk", SWAP, (1, 0), names)), (), True)
            self.check(("reads", other, ("walk", SWAP, (1, 0), names)), None, False)


class LargeTest(CheckerCase):

    def test_numbers_of_many_figures(self):
        walk = large_walk(3)
        self.check(("shares", walk, shares_of(walk)), (), True)
        self.check(("backwards", walk, backward(walk)), (), True)
        self.check(("unlike", walk), (0, 1, 2), backward(walk) != walk)
        weights = large_weights(4)
        self.check(("alike", walk_of(weights)), weights, True)
        self.check(("alike", walk_of(weights)), large_weights(3), False)
        self.check(("row", (walk, (0, 1, 1)), (), ONE), (), True)

    def test_weights_of_all_kinds(self):
        for weights in many_weights()[::3]:
            self.check(("alike", walk_of(weights)), weights, True)
            self.check(("remains", weights, tuple(range(len(weights))), weights), (), True)
            self.check(("remains", weights, tuple(range(len(weights))), RING), (), weights == RING)
        self.check(("alike", LINE), BARS, True)
        self.check(("alike", SWAP), TIE, True)
        self.check(("alike", FOUR), SQUARE, False)


if __name__ == "__main__":
    unittest.main()
