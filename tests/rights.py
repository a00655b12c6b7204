"""Claims that are so with papers for the checker, many of them others than this package makes, and bent ones."""

import random
from fractions import Fraction
from itertools import combinations, product

from backwalks.apart import apart_table, driven_flow, driving_heights
from backwalks.backward import backward
from backwalks.certifyseen import basis_paper
from backwalks.language import told_text
from backwalks.seen import heads, seen_alike, tails
from backwalks.trees import lot_chance, trees_with
from backwalks.turning import turns_of
from backwalks.walks import flows_of, shares_of
from backwalks.watched import remains
from backwalks.within import fitted
from tests.helpers import (ALONE, HALF, LEAN, LINE, NIL, ODD_VALUES, ONE, SPIN, SWAP, THIRD, WHEEL, cycle_walk, pair,
                           rings_by_hand, walk_of_rows)
from tests.nets import BARS, BOTH, LOOP, RING, STAR, TIE, TWO, ties_by_hand
from tests.papers import accepts_by_hand
from tests.views import CLEAR, DIM, chance_of, doubled, moved, rows_up_to

FOUR = walk_of_rows([[0, 1, 2, 0], [1, 1, 0, 3], [0, 2, 0, 1], [1, 0, 1, 0]])
SQUARE = tuple(tuple(pair(number) for number in row) for row in
               [[0, 1, Fraction(1, 2), 2], [1, 0, 3, 0], [Fraction(1, 2), 3, 1, 1], [2, 0, 1, 0]])
WALKS = [ALONE, SWAP, LEAN, SPIN, LINE, WHEEL, FOUR, cycle_walk(4, Fraction(1, 2), Fraction(1, 3))]
NETS = [LOOP, TIE, BOTH, BARS, RING, STAR, SQUARE]
COIN = (((HALF, HALF), (HALF, HALF)), (0, 1))
# Two ways from 0 to 1, and two back: what turns can be told in more than one way.
EIGHT = walk_of_rows([[0, 0, 1, 1, 0, 0],
[0, 0, 0, 0, 1, 1]] + [[int(j == to) for j in range(6)] for to in (1, 1, 0, 0)])


def of_walks():
    for walk in WALKS:
        yield ("shares", walk, shares_of(walk)), ()
        yield ("backwards", walk, backward(walk)), ()
        yield ("turns", walk, turns_of(walk)), ()
        if backward(walk) == walk:
            flows = flows_of(walk)
            for factor in (Fraction(1), Fraction(3, 7), Fraction(10 ** 30)):
                yield ("alike", walk), tuple(tuple(pair(Fraction(*flow) * factor) for flow in row) for row in flows)
        for ring in rings_by_hand(len(walk)):
            if accepts_by_hand(("unlike", walk), ring):
                yield ("unlike", walk), ring
        for weights in ([1] * len(walk), range(1, len(walk) + 1)):
            told = tuple(pair(Fraction(number, sum(weights))) for number in weights)
            try:
                yield ("fits", walk, told, fitted(walk, told)), ()
            except ValueError:
                continue
    eighth, less = (1, 8), (1, 16)
    yield ("turns", EIGHT, (((0, 2, 1, 4), eighth), ((0, 3, 1, 5), eighth))), ()
    yield ("turns", EIGHT, (((0, 2, 1, 5), eighth), ((0, 3, 1, 4), eighth))), ()
    yield ("turns", EIGHT, tuple(((0, up, 1, down), less) for up, down in product((2, 3), (4, 5)))), ()


def path_flow(many, path):
    """The flow that goes along the places of the path alone."""
    rows = [[NIL] * many for _ in range(many)]
    for here, there in zip(path, path[1:]):
        rows[here][there], rows[there][here] = ONE, (-1, 1)
    return tuple(tuple(row) for row in rows)


def of_ends():
    for weights, one, two in ((TIE, 0, 1), (TIE, 1, 0), (BOTH, 0, 1), (BARS, 0, 2), (RING, 0, 1), (RING, 2, 1),
                              (STAR, 0, 3), (SQUARE, 1, 3), (SQUARE, 2, 0)):
        heights = driving_heights(weights, one, two)
        flow, cost = driven_flow(weights, heights), Fraction(*heights[one])
        even = tuple(pair(Fraction(*height) / cost) for height in heights)
        for more in (Fraction(0), Fraction(1, 10 ** 40), Fraction(2), Fraction(10 ** 20)):
            yield ("within", weights, one, two, pair(cost + more)), flow
        for less in (Fraction(1, 10 ** 40), cost / 2, cost, cost + 1):
            yield ("beyond", weights, one, two, pair(cost - less)), even
        yield ("apart", weights, one, two, pair(cost)), (flow, even)
    # Other flows and heights than the driven ones, exactly at their cost and a little beside.
    tiny = Fraction(1, 10 ** 40)
    for path, cost in (((0, 1), Fraction(1)), ((0, 2, 1), Fraction(2))):
        for more in (Fraction(0), tiny):
            yield ("within", RING, 0, 1, pair(cost + more)), path_flow(3, path)
    for heights, cost in (((ONE, NIL, NIL), Fraction(2)), ((ONE, NIL, ONE), Fraction(2)), ((ONE, NIL,
    (3, 1)), Fraction(14))):
        yield ("beyond", RING, 0, 1, pair(1 / cost - tiny)), heights
        yield ("beyond", RING, 0, 1, (-5, 1)), heights


def of_trees():
    for weights in NETS:
        ties = ties_by_hand(weights)
        for size in (0, 1, 2, 3):
            for lot in list(combinations(ties, size))[:4]:
                yield ("in trees", weights, lot, lot_chance(weights, lot)), trees_with(weights, lot)


def of_places():
    for weights in NETS:
        many = len(weights)
        for size in (1, many):
            lot = tuple(range(many))[-size:]
            yield ("remains", weights, lot, remains(weights, lot)), ()
        if many > 1:
            yield ("told by", apart_table(weights), tuple(
                tuple(NIL if i == j else number for j, number in enumerate(row)) for i, row in enumerate(weights))), ()
    lot = (0, 1, 2)
    for row in ((0, 1, 2), (2, 0, 1), (1, 2, 0)):
        yield ("alike at", RING, lot, STAR, row), ()
        yield ("alike at", STAR, lot, RING, row), ()
    yield ("alike at", BARS, (1,), TIE, (0,)), ()
    yield ("alike at", SQUARE, (0, 1, 3), remains(SQUARE, (0, 1, 3)), (0, 1, 2)), ()
    for weights, lot, other, row in ((RING, (0, 1), STAR, (0, 3)), (BARS, lot, RING, lot), (SQUARE, lot, STAR,
    (3, 1, 0)),
                                     (STAR, (0, 1, 2, 3), SQUARE, (3, 1, 0, 2)), (TIE, (0, 1), BARS, (2, 0))):
        for first, second in combinations(range(len(lot)), 2):
            if accepts_by_hand(("unlike at", weights, lot, other, row), (first, second)):
                yield ("unlike at", weights, lot, other, row), (first, second)
    for table in (((NIL,),), ((ONE,),), ((NIL, ONE), (TWO, NIL)), ((NIL, NIL), (NIL, NIL)), ((NIL, (-1, 1)),
    ((-1, 1), NIL)),
                  ((ONE, ONE), (ONE, NIL)), ((NIL, ONE, (5, 1)), (ONE, NIL, ONE),
                  ((5, 1), ONE, NIL)), RING[:2] + (BARS[2],)):
        yield ("told by none", table), ()
    yield ("told by", ((NIL, ONE, TWO), (ONE, NIL, ONE), (TWO, ONE, NIL)),
           ((NIL, ONE, NIL), (ONE, NIL, ONE), (NIL, ONE, NIL))), ()


def with_rows_more(one, other, paper, source):
    """The paper with a row more behind, whose state is a combination of the others'."""
    rows, parts = paper
    at, mark = source.randrange(len(rows)), source.randrange(max(one[1]) + 1)
    told = [[exact_row(numbers) for numbers in part] for part in parts]
    of_new = told[at][mark]
    behind = [[sum(number * part[each][k] for number, part in zip(of_new, told)) for k in range(len(rows))]
              for each in range(max(one[1]) + 1)]
    # What is told of the new row is put, in part, in the place of what it is a combination of.
    share = Fraction(source.randint(-2, 3), source.randint(1, 3))
    longer = [[[number - share * each for number, each in zip(numbers, of_new)] + [share] for numbers in part]
              for part in told + [behind]]
    return (rows + (rows[at] + (mark,),), tuple(
        tuple(tuple(pair(number) for number in numbers) for numbers in part) for part in longer))


def exact_row(numbers):
    return [Fraction(*number) for number in numbers]


def in_other_order(paper, source):
    """The paper with the rows in another order, each one behind that of one mark less."""
    rows, parts = paper
    order = [0]
    while len(order) < len(rows):
        told = [rows[at] for at in order]
        order.append(source.choice([at for at in range(len(rows)) if at not in order and rows[at][:-1] in told]))
    return (tuple(rows[at] for at in order),
            tuple(tuple(tuple(numbers[at] for at in order) for numbers in parts[each]) for each in order))


def papers_of_two(one, other, source):
    """Papers that show that both are seen alike."""
    paper = basis_paper(one, other)
    yield paper
    yield in_other_order(paper, source)
    longer = with_rows_more(one, other, paper, source)
    yield longer
    yield in_other_order(with_rows_more(one, other, longer, source), source)


def many_marks(many):
    """A paper with rows of up to so many marks for two walks of which nothing is seen."""
    first = (ONE,) + (NIL,) * many
    return (tuple((0,) * size for size in range(many + 1)), ((first,),) * (many + 1))


SIGHTED = [(ALONE, (0,)), (SWAP, (0, 0)), (LEAN, (1, 0)), (SPIN, (0, 1, 0)), DIM, CLEAR, (LINE, (1, 1, 0)), (FOUR,
(0, 1, 1, 0)),
           COIN]


def of_rows():
    source = random.Random(101)
    for sighted in SIGHTED:
        for told in source.sample(rows_up_to(sighted, 3), 3):
            yield ("row", sighted, told, pair(chance_of(sighted, told))), ()
        for other in (sighted, moved(sighted, range(len(sighted[0]))[::-1]), doubled(sighted, 0, Fraction(1, 3))):
            for paper in papers_of_two(sighted, other, source):
                yield ("seen alike", sighted, other), paper
        back = (backward(sighted[0]), sighted[1])
        if seen_alike(sighted, back):
            for paper in papers_of_two(sighted, back, source):
                yield ("seen both ways", sighted), paper
        for one, other in product((sighted,), SIGHTED + [back]):
            for told in source.sample(rows_up_to(one, 3), 4):
                if accepts_by_hand(("seen unlike", one, other), told):
                    yield ("seen unlike", one, other), told
        for told in rows_up_to(sighted, 3):
            if accepts_by_hand(("seen one way", sighted), told):
                yield ("seen one way", sighted), told
    yield ("row", DIM, (0, 0, 1) * 13 + (0,), THIRD), ()
    yield ("seen one way", CLEAR), (0, 1, 2) * 13 + (0,)
    yield ("seen unlike", CLEAR, (backward(WHEEL), (0, 1, 2))), (1, 2, 0) * 13 + (1,)
    yield ("seen alike", (LEAN, (0, 0)), (ALONE, (0,))), many_marks(44)
    yield ("seen both ways", (SPIN, (0, 0, 0))), many_marks(41)


def of_ranks():
    source = random.Random(102)
    for sighted in SIGHTED:
        yield ("needs", sighted, 0), ((), ())
        first, second = heads(sighted), tails(sighted)
        yield ("needs", sighted, len(first)), (first, second)
        yield ("needs", sighted, len(first)), (first[::-1], tuple(source.sample(second, len(second))))
        rows = rows_up_to(sighted, 3)
        for size in (1, 2, 3):
            for _ in range(6):
                paper = tuple(tuple(source.choice(rows) for _ in range(size)) for _ in range(2))
                if accepts_by_hand(("needs", sighted, size), paper):
                    yield ("needs", sighted, size), paper
    yield ("needs", DIM, 1), (((0, 0, 1) * 6 + (0, 0),), ((1, 0, 0) * 6 + (1, 0),))


def of_texts():
    for told in (("walk", LEAN, (1, 0), ("hall", "yard")), ("weights", BARS, None, ("a", "b", "c")),
                 ("walk", ALONE, (0,), ("a",)), ("walk", SPIN, (0, 0, 1), ("x", "y", "z"))):
        yield ("reads", told_text(told), told), ()
    yield ("reads", "walk\nplaces b a\na: b 2/4, a rest\nb: a 1\n= a", ("walk", ((NIL, ONE), (HALF, HALF)), (1, 0),
    ("b", "a"))), ()
    yield ("reads", "weights\nplaces b a\na - b 1/3\nb - a 1/6", ("weights", TIE, None, ("b", "a"))), ()


def all_rights():
    return [*of_walks(), *of_ends(), *of_trees(), *of_places(), *of_rows(), *of_ranks(), *of_texts()]


def bent_part(source, value):
    """Something else in the place of a value, often much like it."""
    if type(value) is int:
        return source.choice((value + 1, value - 1, -value, bool(value), str(value), (value,), None, 0, 1, value * 2))
    if type(value) is str:
        return source.choice((value + "x", value[1:], value.upper(), value.encode(), "alike", "unlike", None, (value,),
                              value.replace("1", "2"), value + "\n"))
    if type(value) is not tuple:
        return source.choice(((), None, 0, "", (0, 1), (0,)))
    swapped = list(value)
    if len(value) > 1:
        i, j = source.sample(range(len(value)), 2)
        swapped[i], swapped[j] = value[j], value[i]
    choices = [list(value), value[:-1], value + value[-1:], value[1:], value[::-1], (), (value,), tuple(swapped),
               tuple(swapped), value + ((),), None, source.choice(ODD_VALUES)]
    if len(value) == 2 and type(value[0]) is type(value[1]) is int:
        top, bottom = value
        choices += [(2 * top, 2 * bottom), (-top, -bottom), (top, bottom + 1), (top + bottom, bottom), (-top, bottom),
                    (top * 10 ** 40 + 1, bottom * 10 ** 40), [top, bottom], (bool(top), bottom), (top, True), NIL, ONE]
    return source.choice(choices)


def bent(source, value, depth=0):
    """The value with one part bent."""
    if type(value) is tuple and len(value) > 0 and source.random() < 0.85:
        at = source.randrange(len(value))
        return value[:at] + (bent(source, value[at], depth + 1),) + value[at + 1:]
    return bent_part(source, value)


def is_small(claim, paper):
    """Whether it is soon looked at by hand."""
    return len(repr((claim, paper))) < 3000
