"""The checker: whether a paper shows that a claim is so."""

from backwalks.apart import apart, check_ends, check_heights, flow_cost, height_cost, weights_for
from backwalks.backward import backward, products
from backwalks.errors import WalkError
from backwalks.exact import NIL, ONE, common_bottom, determinant, is_below, is_fraction, is_fraction_row, is_place
from backwalks.exact import multiplied, scaled_by, times, whole_dot
from backwalks.glasses import check_sighted, number_of_marks, row_chance
from backwalks.language import is_told, read_told
from backwalks.seen import check_other, states_and_steps
from backwalks.trees import check_ties, lot_chance, trees_with
from backwalks.turning import are_turns
from backwalks.walks import MOST_PLACES, check_walk, is_walk, shares_of
from backwalks.watched import parted_at, remains
from backwalks.weights import is_weights, walk_of
from backwalks.within import check_shares, fitted

LONGEST_HALF = 20


def is_nothing(paper):
    return isinstance(paper, tuple) and len(paper) == 0


def is_pair(paper):
    return isinstance(paper, tuple) and len(paper) == 2


# Each of the following functions takes the parts of a claim and a paper, and tells whether the paper is one for the
# claim. What is no part of such a claim, or no part of such a paper, may raise an error of this package instead.


def shares_hold(walk, shares, paper):
    check_walk(walk)
    check_shares(len(walk), shares)
    return shares == shares_of(walk) and is_nothing(paper)


def backwards_holds(walk, other, paper):
    return is_walk(other) and other == backward(walk) and is_nothing(paper)


def alike_holds(walk, paper):
    check_walk(walk)
    return walk_of(paper) == walk


def unlike_holds(walk, paper):
    around, back = products(walk, paper)
    return around != back


def turns_hold(walk, turns, paper):
    return are_turns(walk, turns) and is_nothing(paper)


def fits_holds(walk, shares, other, paper):
    return is_walk(other) and other == fitted(walk, shares) and is_nothing(paper)


def within_holds(weights, one, two, number, paper):
    return is_fraction(number) and not is_below(number, flow_cost(weights, one, two, paper))


def cost_from_one(weights, one, two, heights):
    """The cost of heights that are 1 at the one place and 0 at the other one; None for others."""
    check_ends(weights, one, two)
    check_heights(weights, heights)
    if heights[one] != ONE or heights[two] != NIL:
        return None
    return height_cost(weights, heights)


def beyond_holds(weights, one, two, number, paper):
    cost = cost_from_one(weights, one, two, paper)
    return is_fraction(number) and cost is not None and is_below(times(number, cost), ONE)


def apart_holds(weights, one, two, number, paper):
    if not is_fraction(number) or not is_pair(paper):
        return False
    flow, heights = paper
    cost = cost_from_one(weights, one, two, heights)
    return flow_cost(weights, one, two, flow) == number and cost is not None and times(number, cost) == ONE


def in_trees_holds(weights, ties, chance, paper):
    if not is_fraction(chance) or chance != lot_chance(weights, ties) or not isinstance(paper, tuple):
        return False
    for tree in paper:
        check_ties(weights, tree)
    return paper == trees_with(weights, ties)


def remains_holds(weights, lot, other, paper):
    return is_weights(other) and other == remains(weights, lot) and is_nothing(paper)


def alike_at_holds(weights, lot, other, row, paper):
    return parted_at(weights, lot, other, row) is None and is_nothing(paper)


def unlike_at_holds(weights, lot, other, row, paper):
    if parted_at(weights, lot, other, row) is None or not is_pair(paper):
        return False
    first, second = paper
    if not is_place(second, len(lot)) or not is_place(first, second):
        return False
    return apart(weights, lot[first], lot[second]) != apart(other, row[first], row[second])


def told_by_holds(table, weights, paper):
    return is_weights(weights) and weights == weights_for(table) and is_nothing(paper)


def told_by_none_holds(table, paper):
    return weights_for(table) is None and is_nothing(paper)


def row_holds(sighted, row, chance, paper):
    return is_fraction(chance) and chance == row_chance(sighted, row) and is_nothing(paper)


def is_row(value, many):
    """Whether any value is a row of so many marks, of whatever length."""
    return isinstance(value, tuple) and all([is_place(mark, many) for mark in value])


def are_growing(rows, many):
    """Whether any value is a tuple of rows, () the first one, each other one one of those ahead of it and a mark."""
    if not isinstance(rows, tuple) or len(rows) == 0 or not all([is_row(row, many) for row in rows]):
        return False
    if rows[0] != ():
        return False
    ahead = {(): True}
    for row in rows[1:]:
        if row == () or row[:-1] not in ahead:
            return False
        ahead[row] = True
    return True


def are_parts(parts, size, many):
    """Whether any value tells for each of so many rows, and for each of the marks, as many fractions as rows."""
    if not isinstance(parts, tuple) or len(parts) != size:
        return False
    for part in parts:
        if not isinstance(part, tuple) or len(part) != many:
            return False
        if not all([is_fraction_row(numbers, size) for numbers in part]):
            return False
    return True


def is_combination(numbers, columns, state):
    """Whether a state is the sum of those of which these are the columns, times these numbers."""
    bottom = common_bottom(numbers)
    scaled = scaled_by(numbers, bottom)
    return [whole_dot(scaled, column) for column in columns] == multiplied(state, bottom)


def seen_alike_holds(one, other, paper):
    check_sighted(one)
    check_other(one, other)
    if not is_pair(paper):
        return False
    rows, parts = paper
    many = number_of_marks(one)
    if not are_growing(rows, many) or not are_parts(parts, len(rows), many):
        return False
    states, steps = states_and_steps(one, other, rows)
    if any([sum(state) != 0 for state in states]):
        return False
    columns = list(zip(*states))
    for part, behind in zip(parts, steps):
        if not all([is_combination(numbers, columns, state) for numbers, state in zip(part, behind)]):
            return False
    return True


def seen_unlike_holds(one, other, paper):
    check_sighted(one)
    check_other(one, other)
    return row_chance(one, paper) != row_chance(other, paper)


def both_ways_holds(sighted, paper):
    check_sighted(sighted)
    walk, glasses = sighted
    return seen_alike_holds(sighted, (backward(walk), glasses), paper)


def one_way_holds(sighted, paper):
    chance = row_chance(sighted, paper)
    return chance != row_chance(sighted, paper[::-1])


def are_halves(sighted, rows, size):
    """Whether any value is a tuple of so many rows, each of them of few enough marks."""
    if not isinstance(rows, tuple) or len(rows) != size:
        return False
    return all([is_row(row, number_of_marks(sighted)) and len(row) <= LONGEST_HALF for row in rows])


def needs_holds(sighted, size, paper):
    check_sighted(sighted)
    if not is_place(size, MOST_PLACES + 1) or not is_pair(paper):
        return False
    heads, tails = paper
    if not are_halves(sighted, heads, size) or not are_halves(sighted, tails, size):
        return False
    return determinant([[row_chance(sighted, head + tail) for tail in tails] for head in heads]) != NIL


def reads_holds(text, told, paper):
    return is_told(told) and told == read_told(text) and is_nothing(paper)


HOLDS = {
    "shares": shares_hold, "backwards": backwards_holds, "alike": alike_holds, "unlike": unlike_holds,
    "turns": turns_hold, "fits": fits_holds, "within": within_holds, "beyond": beyond_holds, "apart": apart_holds,
    "in trees": in_trees_holds, "remains": remains_holds, "alike at": alike_at_holds, "unlike at": unlike_at_holds,
    "told by": told_by_holds, "told by none": told_by_none_holds, "row": row_holds, "seen alike": seen_alike_holds,
    "seen unlike": seen_unlike_holds, "seen both ways": both_ways_holds, "seen one way": one_way_holds,
    "needs": needs_holds, "reads": reads_holds,
}
# How many parts stand behind each word.
PARTS = {
    "shares": 2, "backwards": 2, "alike": 1, "unlike": 1, "turns": 2, "fits": 3, "within": 4, "beyond": 4, "apart": 4,
    "in trees": 3, "remains": 3, "alike at": 4, "unlike at": 4, "told by": 2, "told by none": 1, "row": 3,
    "seen alike": 2, "seen unlike": 2, "seen both ways": 1, "seen one way": 1, "needs": 2, "reads": 2,
}


def accepts(claim, paper):
    """Whether the claim is one for the checker, and the paper one for it, whatever both are."""
    if not isinstance(claim, tuple) or len(claim) == 0 or not isinstance(claim[0], str):
        return False
    word, parts = claim[0], claim[1:]
    if word not in PARTS or len(parts) != PARTS[word]:
        return False
    holds = HOLDS[word]
    try:
        return holds(*parts, paper)
    except WalkError:
        return False
