"""What several tests need: many walks, values of any kind, and a check of errors.

Everything here is worked out by `fractions.Fraction`, apart from the package, so that the two can be compared.
"""

import random
from fractions import Fraction
from itertools import permutations, product

NIL, ONE, HALF, THIRD, MORE = (0, 1), (1, 1), (1, 2), (1, 3), (2, 3)

ALONE = ((ONE,),)
SWAP = ((NIL, ONE), (ONE, NIL))
LEAN = ((HALF, HALF), (THIRD, MORE))
SPIN = ((NIL, MORE, THIRD), (THIRD, NIL, MORE), (MORE, THIRD, NIL))
LINE = ((NIL, ONE, NIL), (THIRD, NIL, MORE), (NIL, MORE, THIRD))
WHEEL = ((NIL, ONE, NIL), (NIL, NIL, ONE), (ONE, NIL, NIL))


class Odd:
    """An object that no rule of the package knows."""


def nested(depth):
    """A tuple in a tuple, and so on, so many deep."""
    value = ()
    for _ in range(depth - 1):
        value = (value,)
    return value


# Kept apart from the fraction 0 and from walks: none of these is a table, a place or a ring of anything.
ODD_VALUES = [
    None, True, False, 0, 1, -1, 7, 10 ** 50, "", "walk", "(0, 1, 2)", b"", b"\x00\x01\x02", Fraction(1, 2), 2j,
    [], [0, 1, 2], [[(1, 1)]], {}, {0: 1}, {(0, 1): ()}, set(), {0, 1, 2}, frozenset({0, 1, 2}), range(3),
    (), ((),), ((), ()), (((),),), (None,), (None, None, None), ("", "", ""), (b"", b"", b""), ("0", "1", "2"),
    ([0], [1], [2]), ({}, {}, {}), ({0}, {1}, {2}), (set(), set(), set()), ((0, 1), (1, 1)), nested(20),
    (nested(19), nested(19), nested(19)), ([[[[]]]],), {"deep": {"deep": [set(), ()]}}, int, len, Odd, Odd(), Ellipsis,
    NotImplemented, ((None,),), (("1",),), (((1, 1), (0, 1)),), ({(1, 1)},), [((1, 1),)], ([(1, 1)],), (([1, 1],),),
]


def pair(number):
    """The fraction as this package tells it."""
    number = Fraction(number)
    return (number.numerator, number.denominator)


def exact(told):
    """The told fraction, row or table as Fractions."""
    if len(told) == 2 and isinstance(told[0], int):
        return Fraction(told[0], told[1])
    return [exact(part) for part in told]


def is_told_fraction(value):
    """Whether it is just what a fraction is told by."""
    if type(value) is not tuple or len(value) != 2 or type(value[0]) is not int or type(value[1]) is not int:
        return False
    return value[1] != 0 and pair(Fraction(*value)) == value


def is_told_table(value, many):
    """Whether it is a tuple of so many tuples of so many fractions."""
    return type(value) is tuple and len(value) == many and all(is_told_row(row, many) for row in value)


def is_told_row(value, many):
    """Whether it is a tuple of so many fractions."""
    return type(value) is tuple and len(value) == many and all(is_told_fraction(number) for number in value)


def joined(rows):
    """Whether each place leads to each other one by numbers above 0."""
    many = len(rows)
    leads = [[rows[i][j] > 0 or i == j for j in range(many)] for i in range(many)]
    for k, i, j in product(range(many), repeat=3):
        leads[i][j] = leads[i][j] or (leads[i][k] and leads[k][j])
    return all(all(row) for row in leads)


def walk_of_rows(rows):
    """The walk that has each of these rows over its sum."""
    return tuple(tuple(pair(Fraction(number, sum(row))) for number in row) for row in rows)


def random_rows(source, many, most):
    """A square of small numbers, many of them 0."""
    return [[source.choice((0, 0, 1, source.randint(1, most))) for _ in range(many)] for _ in range(many)]


def usable(rows):
    return all(sum(row) > 0 for row in rows) and joined(rows)


def even_rows(rows):
    """The square put even: as much one way as the other."""
    return [[rows[i][j] + rows[j][i] for j in range(len(rows))] for i in range(len(rows))]


def some_walks(each, seed):
    """So many walks of each number of places, half of them of weights."""
    source, walks = random.Random(seed), []
    for many in range(1, 7):
        found = 0
        while found < each:
            rows = random_rows(source, many, 9)
            if found % 2 == 1:
                rows = even_rows(rows)
            if usable(rows):
                walks.append(walk_of_rows(rows))
                found += 1
    return walks


def cycle_walk(many, there, back):
    """From each of many places around to the next one with one chance, to the one behind with the other."""
    rows = [[Fraction(0)] * many for _ in range(many)]
    for i in range(many):
        rows[i][(i + 1) % many] += there
        rows[i][i - 1] += back
        rows[i][i] += 1 - there - back
    return tuple(tuple(pair(number) for number in row) for row in rows)


def nearly_walks():
    """Walks of weights, each with a little more one way on a single step."""
    source, walks = random.Random(5), []
    while len(walks) < 25:
        rows = even_rows(random_rows(source, source.randint(3, 6), 9))
        if not usable(rows):
            continue
        i, j = source.choice([(i, j) for i in range(len(rows)) for j in range(len(rows)) if i != j and rows[i][j]])
        rows[i][j] += 1
        walks.append(walk_of_rows(rows))
    return walks


def many_walks():
    """Walks of every kind that the promises tell apart."""
    walks = [ALONE, SWAP, LEAN, SPIN, LINE, WHEEL] + some_walks(14, 11) + nearly_walks()
    for many in range(1, 7):
        walks.append(cycle_walk(many, Fraction(1, 2), Fraction(1, 3)))
        walks.append(cycle_walk(many, Fraction(1, 5), Fraction(1, 5)))
        walks.append(cycle_walk(many, Fraction(1), Fraction(0)))
    return walks


def large_walk(many):
    """A walk with numbers of up to 400 figures."""
    rows = []
    for i in range(many):
        row = [10 ** 390 // (3 * i + 5 * j + 7) + i * j for j in range(many)]
        rows.append(row)
    return walk_of_rows(rows)


def tree_sum_by_hand(walk, root):
    """The sum over all trees into the root, each of them gone through."""
    table, many = exact(walk), len(walk)
    others, found = [place for place in range(many) if place != root], Fraction(0)
    for ends in product(range(many), repeat=many - 1):
        steps = dict(zip(others, ends))
        if all(leads_to_root(steps, place, root) for place in others):
            weight = Fraction(1)
            for here, there in steps.items():
                weight *= table[here][there]
            found += weight
    return found


def leads_to_root(steps, place, root):
    """Whether the steps lead from the place to the root."""
    for _ in range(len(steps) + 1):
        if place == root:
            return True
        place = steps[place]
    return False


def rings_by_hand(many):
    """All rings of so many places, by length, then in order."""
    rings = [places for length in range(3, many + 1) for places in permutations(range(many), length)
             if all(places[0] < place for place in places[1:]) and places[1] < places[-1]]
    return sorted(rings, key=lambda ring: (len(ring), ring))


def check_raises(case, error, kept, call):
    """Let a call raise just this class of errors, with just these attributes."""
    with case.assertRaises(error) as caught:
        call()
    case.assertIs(type(caught.exception), error)
    case.assertEqual(vars(caught.exception), kept)
    for name, value in kept.items():
        case.assertIs(type(getattr(caught.exception, name)), type(value))


def check_given(case, error, calls, values):
    """Let each call with each of the values raise this class of errors, which keeps the very value that was passed."""
    for call in calls:
        for value in values:
            check_raises(case, error, {"given": value}, lambda: call(value))
        given = [[ONE]]
        with case.assertRaises(error) as caught:
            call(given)
        case.assertIs(caught.exception.given, given)
        case.assertEqual(given, [[ONE]])
