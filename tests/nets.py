"""Weights for the tests of what is told of them, and sums done by `fractions.Fraction`, apart from the package."""

import random
from fractions import Fraction
from itertools import combinations, product

from tests.helpers import HALF, NIL, ONE, THIRD, even_rows, exact, joined, pair, random_rows, usable

TWO = (2, 1)
LOOP = (((3, 1),),)
TIE = ((NIL, HALF), (HALF, NIL))
BOTH = ((ONE, THIRD), (THIRD, NIL))
BARS = ((NIL, ONE, NIL), (ONE, NIL, TWO), (NIL, TWO, ONE))
RING = ((NIL, ONE, ONE), (ONE, NIL, ONE), (ONE, ONE, NIL))
STAR = ((NIL, NIL, NIL, (3, 1)), (NIL, NIL, NIL, (3, 1)), (NIL, NIL, NIL, (3, 1)), ((3, 1), (3, 1), (3, 1), NIL))
# 1296 trees, the most that weights may have; without three ties that have no place in common 384, the most that are
# let.
ALL_TIES = tuple(tuple(NIL if i == j else ONE for j in range(6)) for i in range(6))
LET_TIES = tuple(tuple(NIL if i == j or i + j == 5 else ONE for j in range(6)) for i in range(6))

NO_WEIGHTS = [
    (), ((),), (((0, 1),),), (((-1, 1),),), (((2, 2),),), (((True, 1),),), (((1, True),),), ((True,),), ((1,),),
    # a row of 0 alone, loops alone, parts that are not joined
    ((NIL, NIL), (NIL, NIL)), ((ONE, NIL), (NIL, NIL)), ((ONE, NIL), (NIL, ONE)), ((NIL, NIL), (NIL, ONE)),
    ((NIL, ONE, NIL), (ONE, NIL, NIL), (NIL, NIL, NIL)), ((NIL, ONE, NIL), (ONE, NIL, NIL), (NIL, NIL, ONE)),
    tuple(tuple(ONE if i // 2 == j // 2 else NIL for j in range(4)) for i in range(4)),
    tuple(tuple(ONE if i % 2 == j % 2 else NIL for j in range(6)) for i in range(6)),
    # one number otherwise in the other half
    ((NIL, ONE), (HALF, NIL)), ((NIL, ONE), (NIL, NIL)), ((NIL, ONE, ONE), (ONE, NIL, ONE), (ONE, TWO, NIL)),
    ((NIL, ONE, NIL), (NIL, NIL, ONE), (ONE, NIL, NIL)), ((NIL, ONE), ((10 ** 30 + 1, 10 ** 30), NIL)),
    # below 0, not in lowest terms, other values in the place of numbers
    ((NIL, (-1, 1)), ((-1, 1), NIL)), (((-1, 1), ONE), (ONE, NIL)), ((NIL, (2, 2)), ((2, 2), NIL)),
    ((NIL, (2, 4)), (HALF, NIL)), ((NIL, (1, 0)), ((1, 0), NIL)), ((NIL, (-1, -2)), ((-1, -2), NIL)),
    (((0, 2), ONE), (ONE, NIL)), ((NIL, None), (None, NIL)), ((NIL, "1"), ("1", NIL)), ((0, 1), (1, 0)),
    ((False, True), (True, False)), ((NIL, (1, True)), ((1, True), NIL)), (((False, 1), ONE), (ONE, NIL)),
    # lists in the place of tuples
    [(ONE,)], ([ONE],), (([1, 1],),), [list(row) for row in RING], list(RING), (RING[0], RING[1], list(RING[2])),
    ((NIL, [1, 2]), ([1, 2], NIL)),
    # too many, too few
    RING[:2], RING + RING[:1], ((ONE, ONE),), ((ONE,), (ONE,)), ((NIL, ONE), (ONE,)),
    ((NIL, ONE, NIL), (ONE, NIL, NIL)),
    tuple(tuple(ONE for _ in range(7)) for _ in range(7)), (((1,),),), (((1, 1, 1),),), (((),),), ((Fraction(1),),),
]


def weights_of_rows(rows, bottom=1):
    """The square of whole numbers over one number."""
    return tuple(tuple(pair(Fraction(number, bottom)) for number in row) for row in rows)


def some_weights(each, seed):
    """So many weights of each number of places, with loops and without, some of them of trees alone."""
    source, found = random.Random(seed), []
    for many in range(1, 7):
        told = 0
        while told < each:
            rows = even_rows(random_rows(source, many, 5))
            if told % 3 == 1 and many > 1:
                rows = [[0 if i == j else rows[i][j] for j in range(many)] for i in range(many)]
            if told % 3 == 2:
                rows = tree_rows(source, many)
            if usable(rows):
                found.append(weights_of_rows(rows, source.choice((1, 1, 2, 3, 12))))
                told += 1
    return found


def tree_rows(source, many):
    """Ties of a single tree, and a loop here and there."""
    rows = [[0] * many for _ in range(many)]
    for there in range(1, many):
        here = source.randrange(there)
        rows[here][there] = rows[there][here] = source.randint(1, 5)
    place = source.randrange(many)
    rows[place][place] = source.randint(1, 3)
    return rows


def many_weights():
    """Weights of every kind that the promises tell apart."""
    return [LOOP, TIE, BOTH, BARS, RING, STAR, ALL_TIES, LET_TIES] + some_weights(9, 23)


def large_weights(many):
    """Weights with numbers of up to 400 figures."""
    rows = [[pair(Fraction(10 ** 390 // (3 * (i + j) + 5 * i * j + 7), 10 ** 380 + i + j)) for j in range(many)]
            for i in range(many)]
    return tuple(tuple(row) for row in rows)


def ties_by_hand(weights):
    """All ties, in order."""
    return [(i, j) for i, j in combinations(range(len(weights)), 2) if weights[i][j][0] > 0]


def parts_by_hand(many, ties):
    """For each place the least one to which ties join it."""
    part = list(range(many))
    for i, j in ties:
        part = [min(part[i], part[j]) if each in (part[i], part[j]) else each for each in part]
    return part


def trees_by_hand(weights):
    """All trees, in order."""
    many = len(weights)
    return [ties for ties in combinations(ties_by_hand(weights), many - 1)
            if len(set(parts_by_hand(many, ties))) == 1]


def weight_by_hand(weights, ties):
    """The product of the weights of the ties."""
    found = Fraction(1)
    for i, j in ties:
        found *= exact(weights[i][j])
    return found


def trees_sum_by_hand(weights):
    return sum(weight_by_hand(weights, tree) for tree in trees_by_hand(weights))


def apart_by_hand(weights, one, two):
    """The sum over all pairs of trees that have the two places apart, over that of all trees."""
    many, found = len(weights), Fraction(0)
    if one == two:
        return found
    for ties in combinations(ties_by_hand(weights), many - 2):
        part = parts_by_hand(many, ties)
        if len(set(part)) == 2 and part[one] != part[two]:
            found += weight_by_hand(weights, ties)
    return found / trees_sum_by_hand(weights)


def determinant_by_hand(rows):
    """The determinant, by the numbers of the first row and what is left without their columns."""
    if not rows:
        return Fraction(1)
    found = Fraction(0)
    for at, number in enumerate(rows[0]):
        rest = [row[:at] + row[at + 1:] for row in rows[1:]]
        found += (-1) ** at * number * determinant_by_hand(rest)
    return found


def solve_by_hand(rows, column):
    """The numbers that the square makes the column; None if there are not just one such."""
    many, rows = len(rows), [[Fraction(number) for number in [*row, side]] for row, side in zip(rows, column)]
    for at in range(many):
        pivot = next((k for k in range(at, many) if rows[k][at]), None)
        if pivot is None:
            return None
        rows[at], rows[pivot] = rows[pivot], rows[at]
        rows[at] = [number / rows[at][at] for number in rows[at]]
        for k in range(many):
            if k != at:
                rows[k] = [number - rows[k][at] * lead for number, lead in zip(rows[k], rows[at])]
    return [row[many] for row in rows]


def joined_without(weights, place, one, two):
    """Whether ties lead from the one place to the other one past the third."""
    ties = [tie for tie in ties_by_hand(weights) if place not in tie]
    part = parts_by_hand(len(weights), ties)
    return part[one] == part[two]


def unlike_pairs(weights):
    return [(i, j) for i, j in product(range(len(weights)), repeat=2) if i != j]


def is_net(weights):
    """Whether Fractions make weights, looked at by hand."""
    many = len(weights)
    even = all(weights[i][j] == weights[j][i] >= 0 for i, j in product(range(many), repeat=2))
    return even and all(sum(row) > 0 for row in weights) and joined(weights)
