"""Glasses and sighted walks for the tests of what is told of them, and chances of rows by all rows of places."""

import random
from fractions import Fraction
from functools import lru_cache
from itertools import product

from tests.helpers import ALONE, LEAN, LINE, SPIN, SWAP, WHEEL, exact, many_walks, pair
from tests.nets import solve_by_hand

DIM, CLEAR = (WHEEL, (0, 0, 1)), (WHEEL, (0, 1, 2))


def all_glasses(many):
    """All glasses of so many places."""
    return [marks for marks in product(range(many), repeat=many) if set(marks) == set(range(max(marks) + 1))]


def glasses_by_hand(source, many):
    """Some glasses of so many places."""
    marks = [source.randrange(many) for _ in range(many)]
    order = sorted(set(marks), key=lambda mark: source.random())
    return tuple(order.index(mark) for mark in marks)


def many_sighted():
    """Sighted walks of every kind: for each walk one mark for all places, unlike ones for all, and some glasses."""
    source = random.Random(51)
    found = [DIM, CLEAR, (ALONE, (0,)), (SWAP, (0, 0)), (LEAN, (1, 0)), (SPIN, (0, 1, 0)), (LINE, (1, 1, 0))]
    for walk in many_walks():
        many = len(walk)
        told = {(0,) * many, tuple(range(many)), tuple(range(many))[::-1]}
        told |= {glasses_by_hand(source, many), glasses_by_hand(source, many)}
        found += [(walk, glasses) for glasses in source.sample(sorted(told), min(2, len(told)))]
    return found


def marks_of(sighted):
    return range(max(sighted[1]) + 1)


def rows_up_to(sighted, length):
    """All rows of up to so many marks."""
    return [row for size in range(length + 1) for row in product(marks_of(sighted), repeat=size)]


@lru_cache(maxsize=None)
def at_rest_by_hand(walk):
    """The shares, as the one row of sum 1 that stays when the walk goes on."""
    table, many = exact(walk), len(walk)
    rows = [[table[i][j] - (i == j) for i in range(many)] for j in range(many - 1)] + [[Fraction(1)] * many]
    column = [Fraction(0)] * (many - 1) + [Fraction(1)]
    return solve_by_hand(rows, column)


def places_with(sighted, row):
    """All rows of places with these marks."""
    return product(*[[place for place, each in enumerate(sighted[1]) if each == mark] for mark in row])


def chance_by_hand(sighted, row):
    """The chance of a row by all rows of places."""
    if not row:
        return Fraction(1)
    table, shares, found = exact(sighted[0]), at_rest_by_hand(sighted[0]), Fraction(0)
    for places in places_with(sighted, row):
        chance = shares[places[0]]
        for here, there in zip(places, places[1:]):
            chance *= table[here][there]
        found += chance
    return found


@lru_cache(maxsize=None)
def state_by_hand(sighted, row):
    """The state of the row, mark by mark."""
    if not row:
        return at_rest_by_hand(sighted[0])
    ahead, table = state_by_hand(sighted, row[:-1]), fractions_of(sighted[0])
    places = range(len(table))
    return [sum(ahead[i] * table[i][j] for i in places) if sighted[1][j] == row[-1] else Fraction(0) for j in places]


@lru_cache(maxsize=None)
def fractions_of(walk):
    return exact(walk)


def chance_of(sighted, row):
    """The chance of the row, by its state."""
    return sum(state_by_hand(sighted, row))


def joined_by_hand(one, other, row):
    """The joined state of the row."""
    return state_by_hand(one, row) + [-number for number in state_by_hand(other, row)]


def parting_by_hand(one, other, length):
    """The first row, in order, of unlike chances, of all rows of up to so many marks."""
    for row in rows_up_to(one, length):
        if chance_of(one, row) != chance_of(other, row):
            return row
    return None


class Span:
    """Rows of numbers, and what is a combination of them."""

    def __init__(self):
        self.leads = []

    def takes(self, numbers):
        """Take the row of numbers, if it is no combination of those that were taken."""
        left = [Fraction(number) for number in numbers]
        for at, lead in self.leads:
            if left[at]:
                left = [number - left[at] * top for number, top in zip(left, lead)]
        at = next((at for at, number in enumerate(left) if number), None)
        if at is not None:
            self.leads.append((at, [number / left[at] for number in left]))
        return at is not None


def taken_by_hand(rows, numbers_of):
    """The rows whose numbers are no combination of those of rows taken ahead."""
    span = Span()
    return tuple(row for row in rows if span.takes(numbers_of(row)))


def moved(sighted, order):
    """The same with the places in another order."""
    walk, glasses = sighted
    return (tuple(tuple(walk[i][j] for j in order) for i in order), tuple(glasses[i] for i in order))


def doubled(sighted, place, part):
    """The same with a second place like this one, which has this part of all that comes."""
    walk, glasses = sighted
    rows = []
    for row in walk + (walk[place],):
        chance = Fraction(*row[place])
        rows.append(row[:place] + (pair(chance * (1 - part)),) + row[place + 1:] + (pair(chance * part),))
    return (tuple(rows), glasses + (glasses[place],))


def one_moved(sighted, source, by):
    """The same with a little of one chance moved to another place."""
    walk, glasses = sighted
    row = source.randrange(len(walk))
    here, there = source.sample(range(len(walk)), 2)
    told = [Fraction(*number) for number in walk[row]]
    by = min(by, told[here] / 2)
    told[here], told[there] = told[here] - by, told[there] + by
    return (walk[:row] + (tuple(pair(number) for number in told),) + walk[row + 1:], glasses)
