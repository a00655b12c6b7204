"""Glasses and sighted walks for the tests of what is told of them, and chances of rows by all rows of places."""

import random
from fractions import Fraction
from functools import lru_cache
from itertools import product

from tests.helpers import ALONE, LEAN, LINE, SPIN, SWAP, WHEEL, exact, many_walks
from tests.nets import solve_by_hand

DIM, CLEAR = (WHEEL, (0, 0, 1)), (WHEEL, (0, 1, 2))


def all_glasses(many):
    """All glasses of so many places."""
    return [marks for marks in product(range(many), repeat=many) if set(marks) == set(range(max(marks) + 1))]


def glasses_by_hand(source, many):
    """Some glasses of so many places."""
    marks = [source.randrange(many) for _ in range(many)]
    order = sorted(set(marks), key=lambda mark: source.random())
    return tuple(order.index(mark) for mark in marks)


def many_sighted():
    """Sighted walks of every kind: for each walk one mark for all places, unlike ones for all, and some glasses."""
    source = random.Random(51)
    found = [DIM, CLEAR, (ALONE, (0,)), (SWAP, (0, 0)), (LEAN, (1, 0)), (SPIN, (0, 1, 0)), (LINE, (1, 1, 0))]
    for walk in many_walks():
        many = len(walk)
        told = {(0,) * many, tuple(range(many)), tuple(range(many))[::-1]}
        told |= {glasses_by_hand(source, many), glasses_by_hand(source, many)}
        found += [(walk, glasses) for glasses in source.sample(sorted(told), min(2, len(told)))]
    return found


def marks_of(sighted):
    return range(max(sighted[1]) + 1)


def rows_up_to(sighted, length):
    """All rows of up to so many marks."""
    return [row for size in range(length + 1) for row in product(marks_of(sighted), repeat=size)]


@lru_cache(maxsize=None)
def at_rest_by_hand(walk):
    """The shares, as the one row of sum 1 that stays when the walk goes on."""
    table, many = exact(walk), len(walk)
    rows = [[table[i][j] - (i == j) for i in range(many)] for j in range(many - 1)] + [[Fraction(1)] * many]
    column = [Fraction(0)] * (many - 1) + [Fraction(1)]
    return solve_by_hand(rows, column)


def places_with(sighted, row):
    """All rows of places with these marks."""
    return product(*[[place for place, each in enumerate(sighted[1]) if each == mark] for mark in row])


def chance_by_hand(sighted, row):
    """The chance of a row by all rows of places."""
    if not row:
        return Fraction(1)
    table, shares, found = exact(sighted[0]), at_rest_by_hand(sighted[0]), Fraction(0)
    for places in places_with(sighted, row):
        chance = shares[places[0]]
        for here, there in zip(places, places[1:]):
            chance *= table[here][there]
        found += chance
    return found
