"""The whole program: what texts tell, held against all that is told of it, the console's words and claims."""

import random
import unittest
from fractions import Fraction
from itertools import combinations

from backwalks.apart import (apart, apart_table, flow_cost, flow_of, height_cost, heights_of, in_all, there_and_back,
                             weights_for, with_more)
from backwalks.backward import backward, is_alike, products, unlike_ring
from backwalks.certificates import certify_turns, certify_way
from backwalks.certifyseen import certify_rank, certify_seen, certify_sight
from backwalks.certifyweights import certify_apart, certify_places, certify_trees
from backwalks.checker import accepts
from backwalks.consoles import Console
from backwalks.desks import Desk
from backwalks.errors import InvalidNumber, NotAlike, WalkError
from backwalks.glasses import put_together, row_chance
from backwalks.language import is_told, read_told, told_text
from backwalks.seen import both_ways, heads, parting, rank, seen_alike, tails, telling
from backwalks.trees import lot_chance, tree_sum, trees_of
from backwalks.turning import are_turns, by_toss, turns_of, two_way
from backwalks.walks import flows_of, is_walk, seen_chance, shares_of
from backwalks.watched import are_alike_at, remains, watched_at
from backwalks.weights import is_weights, walk_of, weights_of
from backwalks.within import fitted, kept
from tests.helpers import check_raises, exact, pair
from tests.nets import ties_by_hand
from tests.texts import drawn_text, outcome_of
from tests.views import rows_up_to

TINY = Fraction(1, 10 ** 50)


def read_texts(many):
    """What so many drawn texts tell, without those that tell nothing."""
    source, found = random.Random(131), []
    while len(found) < many:
        kind, told = outcome_of(read_told, drawn_text(source))
        if kind == "returned":
            found.append(told)
    return found


TOLD = read_texts(160)


def text_of(number):
    return str(Fraction(*number))


class WholeCase(unittest.TestCase):

    def check_certified(self, told, claim):
        self.assertEqual(told[0], claim)
        self.assertIs(accepts(*told), True)


class WalksTest(WholeCase):

    def walks(self):
        for kind, table, glasses, names in TOLD:
            walk = table if kind == "walk" else walk_of(table)
            yield walk, (walk, glasses or tuple(range(len(walk)))), kind

    def test_which_way(self):
        for walk, _, kind in self.walks():
            ring, clear = unlike_ring(walk), (walk, tuple(range(len(walk))))
            even = ring is None
            self.assertTrue(even or kind == "walk")
            self.assertEqual([is_alike(walk), backward(walk) == walk, turns_of(walk) == (), by_toss(walk) == walk,
                              two_way(walk) == flows_of(walk), both_ways(clear)], [even] * 6)
            self.check_certified(certify_way(walk), ("alike" if even else "unlike", walk))
            self.check_certified(certify_turns(walk), ("turns", walk, turns_of(walk)))
            if even:
                self.assertEqual(walk_of(weights_of(walk)), walk)
            else:
                self.assertNotEqual(*products(walk, ring))
                check_raises(self, NotAlike, {"ring": ring}, lambda: weights_of(walk))

    def test_backwards_and_by_toss(self):
        for walk, _, _ in self.walks():
            back, toss, shares = backward(walk), by_toss(walk), shares_of(walk)
            self.assertTrue(is_walk(back) and is_walk(toss) and is_alike(toss))
            self.assertEqual([shares_of(back), shares_of(toss), backward(back)], [shares, shares, walk])
            self.assertIs(are_turns(back, turns_of(back)), True)
            self.assertEqual(two_way(back), two_way(walk))
            for claim in (("shares", toss, shares), ("backwards", walk, back), ("backwards", back, walk)):
                self.assertIs(accepts(claim, ()), True)
            kind, other = outcome_of(fitted, walk, shares)
            if kind == "returned":
                self.assertIs(accepts(("fits", walk, shares, other), ()), True)
            self.check_certified(certify_way(toss), ("alike", toss))

    def test_what_is_seen(self):
        for walk, sighted, _ in self.walks():
            back = (backward(walk), sighted[1])
            row = telling(sighted)
            self.assertEqual(row, parting(sighted, back))
            self.check_certified(certify_sight(sighted), ("seen both ways" if row is None else "seen one way", sighted))
            self.check_certified(certify_seen(sighted, back),
                                 ("seen alike" if row is None else "seen unlike", sighted, back))
            self.check_certified(certify_rank(sighted), ("needs", sighted, rank(sighted)))
            self.assertEqual([len(heads(sighted)), len(tails(sighted)), rank(back)], [rank(sighted)] * 3)
            self.assertIs(seen_alike(put_together(sighted, (0,) * len(walk)), ((((1, 1),),), (0,))), True)
            for told in rows_up_to(sighted, 2):
                self.assertEqual(row_chance(sighted, told), row_chance(back, told[::-1]))
                self.assertIs(accepts(("row", sighted, told, row_chance(sighted, told)), ()), True)

    def test_unlike_marks_show_places(self):
        for walk, _, _ in self.walks():
            clear = (walk, tuple(range(len(walk))))
            for places in rows_up_to(clear, 2)[1:]:
                self.assertEqual(row_chance(clear, places), seen_chance(walk, places))

    def test_kept_and_watched(self):
        for walk, _, _ in self.walks():
            for size in range(1, len(walk)):
                lot = tuple(range(len(walk)))[-size:]
                seen = watched_at(walk, lot)
                told, part = shares_of(walk), [exact(share) for share in shares_of(walk)[-size:]]
                self.assertEqual(shares_of(seen), tuple(pair(share / sum(part)) for share in part))
                self.assertEqual(watched_at(backward(walk), lot), backward(seen))
                kind, within = outcome_of(kept, walk, lot)
                if kind == "returned" and is_alike(walk):
                    self.assertEqual([shares_of(within), is_alike(within)], [shares_of(seen), True])
                self.assertEqual(len(told), len(walk))


class NetsTest(WholeCase):

    def nets(self):
        return [table for kind, table, _, _ in TOLD if kind == "weights"]

    def test_apart(self):
        for weights in self.nets():
            table, told = apart_table(weights), Fraction(0)
            for one, two in combinations(range(len(weights)), 2):
                far = apart(weights, one, two)
                number = exact(far)
                self.assertEqual([table[one][two], table[two][one], apart(weights, two, one)], [far] * 3)
                self.assertEqual(there_and_back(weights, one, two), pair(exact(in_all(weights)) * number))
                self.assertEqual(flow_cost(weights, one, two, flow_of(weights, one, two)), far)
                self.check_certified(certify_apart(weights, one, two, far), ("within", weights, one, two, far))
                less = pair(number - TINY)
                self.check_certified(certify_apart(weights, one, two, less), ("beyond", weights, one, two, less))
                paper = certify_apart(weights, one, two, less)[1]
                self.assertEqual(height_cost(weights, paper), pair(1 / number))
                self.assertIs(accepts(("apart", weights, one, two, far), (flow_of(weights, one, two), paper)), True)
                told += number * exact(weights[one][two])
                self.assertLess(exact(apart(with_more(weights, one, two, (1, 7)), one, two)), number)
                self.assertEqual(heights_of(weights, one, two)[one], far)
            self.assertEqual(told, len(weights) - 1)

    def test_tables(self):
        for weights in self.nets():
            table = apart_table(weights)
            found = weights_for(table)
            if len(weights) == 1:
                self.assertIs(accepts(("told by none", table), ()), True)
            else:
                self.assertEqual(apart_table(found), table)
                self.assertIs(accepts(("told by", table, found), ()), True)
                self.assertIs(accepts(("told by none", table), ()), False)

    def test_trees(self):
        for weights in self.nets():
            kind, trees = outcome_of(trees_of, weights)
            if kind != "returned":
                continue
            self.assertEqual(sum(exact(chance) for _, chance in trees), 1)
            ties = ties_by_hand(weights)
            for lot in [()] + [(tie,) for tie in ties] + list(combinations(ties, 2))[:5]:
                told = certify_trees(weights, lot)
                self.check_certified(told, ("in trees", weights, lot, lot_chance(weights, lot)))
                self.assertEqual(set(told[1]), {tree for tree, _ in trees if set(lot) <= set(tree)})
            for tie in ties:
                self.assertEqual(lot_chance(weights,
                (tie,)), pair(exact(weights[tie[0]][tie[1]]) * exact(apart(weights, *tie))))
            self.assertGreater(tree_sum(weights)[0], 0)

    def test_places_out_of_sight(self):
        for weights in self.nets():
            for size in range(1, len(weights) + 1):
                lot = tuple(range(len(weights)))[:size]
                left = remains(weights, lot)
                self.assertTrue(is_weights(left) and are_alike_at(weights, lot, left, lot))
                self.assertEqual(walk_of(left), watched_at(walk_of(weights), lot))
                self.check_certified(certify_places(weights, lot, left, lot), ("alike at", weights, lot, left, lot))
                self.assertIs(accepts(("remains", weights, lot, left), ()), True)


class ConsoleTest(WholeCase):

    def test_words(self):
        for told in TOLD:
            kind, table, glasses, names = told
            walk = table if kind == "walk" else walk_of(table)
            console = Console(Desk(told))
            self.assertEqual(console.say("shares").split(", "), [
                f"{name} {text_of(share)}" for name, share in zip(names, shares_of(walk))])
            self.assertEqual(console.say("ways"), "both" if is_alike(walk) else
                             " ".join(names[place] for place in unlike_ring(walk)))
            self.assertEqual(console.say(f"flow {names[0]} {names[-1]}"), text_of(flows_of(walk)[0][-1]))
            if glasses is not None:
                sighted = (walk, glasses)
                self.assertEqual([console.say("rank"), console.say("seen") == "both", console.say("see 0 0")],
                                 [str(rank(sighted)), both_ways(sighted), text_of(row_chance(sighted, (0, 0)))])
            self.assertEqual(read_told(console.say("show")), told)
            self.assertIs(accepts(("reads", console.say("show"), told), ()), True)

    def test_what_is_told_is_changed_and_claimed(self):
        desk = Desk(read_told("walk\nplaces a b c\na: b 2/3, c rest\nb: c 2/3, a rest\nc: a 2/3, b rest"))
        console = Console(desk)
        self.assertEqual([console.say("ways"), certify_way(desk.told[1])[0][0]], ["a b c", "unlike"])
        self.assertEqual([console.say("look a b; c"), console.say("seen")], ["done", "both"])
        self.check_certified(certify_sight((desk.told[1], desk.told[2])), ("seen both ways", desk.told[1:3]))
        for line in ("put a: b 1/2, c rest", "put b: a 1/2, c rest", "put c: a 1/2, b rest"):
            self.assertEqual(console.say(line), "done")
        self.assertEqual([console.say("ways"), certify_way(desk.told[1])[0][0], len(desk)], ["both", "alike", 4])
        self.assertEqual([console.say("undo"), console.say("ways")], ["done", "a b c"])
        with self.assertRaises(WalkError):
            desk.tried(lambda given: [Console(given).say("undo"), Console(given).say("put a: a 1")])
        self.assertEqual(len(desk), 3)
        for at in range(3):
            self.assertEqual(console.say("undo"), "done")
        self.assertEqual([console.say("shares"), console.say("flow a b")], ["a 1/3, b 1/3, c 1/3", "2/9"])


class DigitsTest(WholeCase):

    def test_numbers_of_sixty_digits(self):
        source = random.Random(132)
        for many in (2, 3, 4, 6):
            names, lines = "abcdef"[:many], []
            for name in names:
                bottom = source.randrange(10 ** 59, 10 ** 60)
                parts = ", ".join(f"{each} {source.randrange(1, bottom // many)}/{bottom}" for each in names[:-1])
                lines.append(f"{name}: {parts}, {names[-1]} rest")
            told = read_told("\n".join(["walk", "places " + " ".join(names)] + lines + ["= " + names[0]]))
            walk = told[1]
            self.assertIs(is_told(told), True)
            self.assertEqual(read_told(told_text(told)), told)
            self.assertEqual(backward(backward(walk)), walk)
            self.assertEqual(sum(exact(share) for share in shares_of(walk)), 1)
            self.check_certified(certify_way(walk), ("alike" if many == 2 else "unlike", walk))
            self.check_certified(certify_sight(told[1:3]),
            ("seen both ways" if both_ways(told[1:3]) else "seen one way",
                                                            told[1:3]))
            self.check_certified(certify_rank((walk, tuple(range(many)))), ("needs", (walk, tuple(range(many))), many))
            check_raises(self, InvalidNumber, {"given": shares_of(walk)[0]}, lambda: Console(Desk(told)).say("shares"))

    def test_ties_of_sixty_digits(self):
        source = random.Random(133)
        lines = [f"{one} - {two} {source.randrange(1, 10 ** 60)}/{source.randrange(1, 10 ** 60)}"
                 for one, two in combinations("abcde", 2)]
        told = read_told("\n".join(["weights", "places a b c d e"] + lines))
        weights = told[1]
        self.assertEqual(read_told(told_text(told)), told)
        self.assertEqual(weights_for(apart_table(weights)), weights)
        far = apart(weights, 0, 4)
        for number, word in ((far, "within"), (pair(exact(far) - Fraction(1, 10 ** 400)), "beyond")):
            self.check_certified(certify_apart(weights, 0, 4, number), (word, weights, 0, 4, number))
        lot = ((0, 1), (1, 2), (3, 4))
        self.check_certified(certify_trees(weights, lot), ("in trees", weights, lot, lot_chance(weights, lot)))
        self.assertIs(is_alike(walk_of(weights)), True)

    def test_numbers_that_part_by_a_very_small_one(self):
        for tiny in (TINY, Fraction(1, 10 ** 300)):
            half, third = Fraction(1, 2), Fraction(1, 3)
            even = ((0, half, half), (half, 0, half), (half, half, 0))
            odd = ((0, half + tiny, half - tiny), (half, 0, half), (half, half, 0))
            one, other = [tuple(tuple(pair(number) for number in row) for row in rows) for rows in (even, odd)]
            self.assertEqual([is_alike(one), is_alike(other), unlike_ring(other)], [True, False, (0, 1, 2)])
            self.check_certified(certify_way(other), ("unlike", other))
            self.assertIs(accepts(("alike", other), flows_of(other)), False)
            self.assertIs(accepts(("shares", other, shares_of(one)), ()), False)
            self.assertEqual(len(turns_of(other)), 1)
            self.assertEqual([telling((other, (0, 1, 2))), telling((other, (0, 0, 1)))], [(0, 1), None])
            self.assertEqual(parting((one, (0, 1, 1)), (other, (0, 1, 1))), parting((other, (0, 1, 1)), (one,
            (0, 1, 1))))
            self.assertEqual(shares_of(one), (pair(third),) * 3)


if __name__ == "__main__":
    unittest.main()
