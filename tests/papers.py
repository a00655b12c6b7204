"""A checker by hand for the tests of the package's one: what each claim says, in Fractions, and forms by kinds."""

from fractions import Fraction
from functools import lru_cache
from itertools import combinations

from tests.helpers import is_told_fraction, is_told_row, is_told_table, joined, pair
from tests.nets import (apart_by_hand, determinant_by_hand, is_net, solve_by_hand, ties_by_hand, trees_by_hand,
                        trees_sum_by_hand, weight_by_hand)
from tests.texts import Wrong, read_by_hand
from tests.views import at_rest_by_hand, chance_of, joined_by_hand


def is_many(value, least=1, most=6):
    return type(value) is tuple and least <= len(value) <= most


def is_int(value, low, high):
    """Whether it is a whole number from the one up to below the other."""
    return type(value) is int and low <= value < high


def is_square(value):
    return is_many(value) and is_told_table(value, len(value))


def is_walk(value):
    if not is_square(value):
        return False
    rows = exact_rows(value)
    return all(min(row) >= 0 and sum(row) == 1 for row in rows) and joined(rows)


def is_weights(value):
    return is_square(value) and is_net(exact_rows(value))


def exact_rows(table):
    return [[Fraction(*number) for number in row] for row in table]


@lru_cache(maxsize=None)
def distance(weights, one, two):
    return apart_by_hand(weights, one, two)


def is_lot(value, many):
    return is_many(value) and all(is_int(place, 0, many) for place in value) and sorted(set(value)) == list(value)


def is_row_at(value, lot, other):
    if type(value) is not tuple or len(value) != len(lot):
        return False
    return all(is_int(place, 0, len(other)) for place in value) and len(set(value)) == len(value)


def is_shares(value, many):
    return is_told_row(value, many) and all(share[0] > 0 for share in value) and sum(exact_row(value)) == 1


def exact_row(row):
    return [Fraction(*number) for number in row]


def flows(walk):
    return [[share * number for number in row] for share, row in zip(at_rest_by_hand(walk), exact_rows(walk))]


def is_way(value, many):
    if type(value) is not tuple or len(value) < 3 or not all(is_int(place, 0, many) for place in value):
        return False
    return len(set(value)) == len(value) and value[0] == min(value)


def is_ends(weights, one, two):
    return is_int(one, 0, len(weights)) and is_int(two, 0, len(weights)) and one != two


def is_tie(weights, value):
    if type(value) is not tuple or len(value) != 2 or not all(is_int(place, 0, len(weights)) for place in value):
        return False
    return value in ties_by_hand(weights)


def are_ties(weights, value):
    if type(value) is not tuple or not all(is_tie(weights, tie) for tie in value):
        return False
    return all(tie < after for tie, after in zip(value, value[1:]))


def is_marks(value, many):
    if type(value) is not tuple or len(value) != many or not all(is_int(mark, 0, many) for mark in value):
        return False
    return set(value) == set(range(max(value) + 1))


def is_sighted(value):
    return type(value) is tuple and len(value) == 2 and is_walk(value[0]) and is_marks(value[1], len(value[0]))


def is_row(value, sighted, most):
    if type(value) is not tuple or len(value) > most:
        return False
    return all(is_int(mark, 0, max(sighted[1]) + 1) for mark in value)


def shares(walk, told, paper):
    return paper == () and is_walk(walk) and is_shares(told, len(walk)) and exact_row(told) == at_rest_by_hand(walk)


def turned(walk):
    """The walk backwards."""
    told, rows, places = at_rest_by_hand(walk), exact_rows(walk), range(len(walk))
    return tuple(tuple(pair(told[j] * rows[j][i] / told[i]) for j in places) for i in places)


def backwards(walk, other, paper):
    return paper == () and is_walk(walk) and is_walk(other) and other == turned(walk)


def alike(walk, paper):
    if not is_walk(walk) or not is_weights(paper) or len(paper) != len(walk):
        return False
    return [[number / sum(row) for number in row] for row in exact_rows(paper)] == exact_rows(walk)


def unlike(walk, paper):
    if not is_walk(walk) or not is_way(paper, len(walk)) or paper[1] >= paper[-1]:
        return False
    rows, around, back = exact_rows(walk), Fraction(1), Fraction(1)
    for here, there in zip(paper, paper[1:] + paper[:1]):
        around, back = around * rows[here][there], back * rows[there][here]
    return around != back


def turns(walk, told, paper):
    if paper != () or not is_walk(walk) or type(told) is not tuple:
        return False
    for turn in told:
        if type(turn) is not tuple or len(turn) != 2 or not is_way(turn[0], len(walk)):
            return False
        if not is_told_fraction(turn[1]) or turn[1][0] <= 0:
            return False
    ways = [turn[0] for turn in told]
    if sorted(ways) != ways or len(set(ways)) != len(ways):
        return False
    left, places = flows(walk), range(len(walk))
    sums = [[min(left[i][j], left[j][i]) for j in places] for i in places]
    for way, number in told:
        for here, there in zip(way, way[1:] + way[:1]):
            sums[here][there] += Fraction(*number)
    return sums == left


def fits(walk, told, other, paper):
    if paper != () or not is_walk(walk) or not is_shares(told, len(walk)) or not is_walk(other):
        return False
    rows, weight, places = exact_rows(walk), exact_row(told), range(len(walk))
    if len(other) != len(walk):
        return False
    return all(Fraction(*other[i][j]) == min(rows[i][j], weight[j] * rows[j][i] / weight[i])
               for i in places for j in places if i != j)


def cost_of_flow(weights, one, two, flow):
    """The cost of a flow; None for what is none."""
    many = len(weights)
    if not is_told_table(flow, many):
        return None
    rows, net = exact_rows(flow), exact_rows(weights)
    if any(rows[i][j] != -rows[j][i] or (net[i][j] == 0 != rows[i][j]) for i in range(many) for j in range(many)):
        return None
    if [sum(row) for row in rows] != [(place == one) - (place == two) for place in range(many)]:
        return None
    return sum(rows[i][j] ** 2 / net[i][j] for i, j in ties_by_hand(weights))


def cost_of_heights(weights, one, two, heights):
    """The cost of heights from 1 down to 0; None for others."""
    if not is_told_row(heights, len(weights)):
        return None
    told, net = exact_row(heights), exact_rows(weights)
    if told[one] != 1 or told[two] != 0:
        return None
    return sum(net[i][j] * (told[i] - told[j]) ** 2 for i, j in ties_by_hand(weights))


def is_claim_of_ends(weights, one, two, number):
    return is_weights(weights) and is_ends(weights, one, two) and is_told_fraction(number)


def within(weights, one, two, number, paper):
    if not is_claim_of_ends(weights, one, two, number):
        return False
    cost = cost_of_flow(weights, one, two, paper)
    return cost is not None and cost <= Fraction(*number)


def beyond(weights, one, two, number, paper):
    if not is_claim_of_ends(weights, one, two, number):
        return False
    cost = cost_of_heights(weights, one, two, paper)
    return cost is not None and cost * Fraction(*number) < 1


def apart(weights, one, two, number, paper):
    if not is_claim_of_ends(weights, one, two, number) or type(paper) is not tuple or len(paper) != 2:
        return False
    cost, other = cost_of_flow(weights, one, two, paper[0]), cost_of_heights(weights, one, two, paper[1])
    return None not in (cost, other) and cost == Fraction(*number) and other * cost == 1


def in_trees(weights, ties, chance, paper):
    if not is_weights(weights) or not are_ties(weights, ties) or not is_told_fraction(chance):
        return False
    if type(paper) is not tuple or not all(are_ties(weights, tree) for tree in paper):
        return False
    trees = [tree for tree in trees_by_hand(weights) if set(ties) <= set(tree)]
    weight = sum(weight_by_hand(weights, tree) for tree in trees)
    return paper == tuple(trees) and weight == trees_sum_by_hand(weights) * Fraction(*chance)


def remains(weights, lot, other, paper):
    if paper != () or not is_weights(weights) or not is_lot(lot, len(weights)) or not is_weights(other):
        return False
    rows, left = exact_rows(weights), list(range(len(weights)))
    for place in [place for place in left if place not in lot]:
        left.remove(place)
        away = sum(rows[place][u] for u in left)
        rows = [[rows[i][j] + rows[i][place] * rows[place][j] / away if i in left and j in left else rows[i][j]
                 for j in range(len(weights))] for i in range(len(weights))]
    return exact_rows(other) == [[rows[i][j] for j in lot] for i in lot]


def is_claim_at(weights, lot, other, row):
    return is_weights(weights) and is_lot(lot, len(weights)) and is_weights(other) and is_row_at(row, lot, other)


def alike_at(weights, lot, other, row, paper):
    return paper == () and is_claim_at(weights, lot, other, row) and all(
        distance(weights, lot[i], lot[j]) == distance(other, row[i], row[j])
        for i, j in combinations(range(len(lot)), 2))


def unlike_at(weights, lot, other, row, paper):
    if not is_claim_at(weights, lot, other, row) or type(paper) is not tuple or len(paper) != 2:
        return False
    if not all(is_int(index, 0, len(lot)) for index in paper) or paper[0] >= paper[1]:
        return False
    i, j = paper
    return distance(weights, lot[i], lot[j]) != distance(other, row[i], row[j])


def is_told_apart(table, weights):
    return all(distance(weights, i, j) == Fraction(*table[i][j])
               for i in range(len(weights)) for j in range(len(weights)))


def told_by(table, weights, paper):
    if paper != () or not is_square(table) or not is_weights(weights) or len(weights) != len(table):
        return False
    return all(weights[i][i] == (0, 1) for i in range(len(weights))) and is_told_apart(table, weights)


def weights_of_table(table):
    """What weights could have the apart table; None."""
    rows, many = exact_rows(table), len(table)
    last = many - 1
    heights = [[(rows[i][last] + rows[last][j] - rows[i][j]) / 2 for j in range(last)] for i in range(last)]
    columns = [solve_by_hand(heights, [int(i == j) for i in range(last)]) for j in range(last)]
    if many < 2 or None in columns:
        return None
    net = [[Fraction(0)] * many for _ in range(many)]
    for i in range(last):
        for j in range(last):
            if i != j:
                net[i][j] = -columns[j][i]
        net[i][last] = net[last][i] = sum(columns[j][i] for j in range(last))
    return tuple(tuple(pair(number) for number in row) for row in net)


def told_by_none(table, paper):
    if paper != () or not is_square(table):
        return False
    weights = weights_of_table(table)
    return weights is None or not is_weights(weights) or not is_told_apart(table, weights)


def row(sighted, told, chance, paper):
    return paper == () and is_sighted(sighted) and is_row(told, sighted, 40) and is_told_fraction(chance) and (
        chance_of(sighted, told) == Fraction(*chance))


def are_two(one, other):
    return is_sighted(one) and is_sighted(other) and max(one[1]) == max(other[1])


def seen_alike(one, other, paper):
    if not are_two(one, other) or type(paper) is not tuple or len(paper) != 2:
        return False
    rows, parts = paper
    if type(rows) is not tuple or not rows or not all(is_row(each, one, 10 ** 6) for each in rows) or rows[0] != ():
        return False
    if not all(rows[at] and rows[at][:-1] in rows[:at] for at in range(1, len(rows))):
        return False
    marks = max(one[1]) + 1
    if type(parts) is not tuple or len(parts) != len(rows):
        return False
    for part in parts:
        if type(part) is not tuple or len(part) != marks or not all(is_told_row(each, len(rows)) for each in part):
            return False
    states = [joined_by_hand(one, other, each) for each in rows]
    if any(map(sum, states)):
        return False
    for each, part in zip(rows, parts):
        for mark, numbers in enumerate(part):
            found = [sum(Fraction(*number) * state[at] for number, state in zip(numbers, states))
                     for at in range(len(states[0]))]
            if found != joined_by_hand(one, other, each + (mark,)):
                return False
    return True


def seen_unlike(one, other, paper):
    return are_two(one, other) and is_row(paper, one, 40) and chance_of(one, paper) != chance_of(other, paper)


def both_ways(sighted, paper):
    return is_sighted(sighted) and seen_alike(sighted, (turned(sighted[0]), sighted[1]), paper)


def one_way(sighted, paper):
    return is_sighted(sighted) and is_row(paper, sighted, 40) and (
        chance_of(sighted, paper) != chance_of(sighted, paper[::-1]))


def needs(sighted, size, paper):
    if not is_sighted(sighted) or not is_int(size, 0, 7) or type(paper) is not tuple or len(paper) != 2:
        return False
    for rows in paper:
        if type(rows) is not tuple or len(rows) != size or not all(is_row(each, sighted, 20) for each in rows):
            return False
    return determinant_by_hand([[chance_of(sighted, ahead + behind) for behind in paper[1]] for ahead in paper[0]]) != 0


def reads(text, told, paper):
    if paper != () or type(text) is not str or type(told) is not tuple or len(told) != 4:
        return False
    try:
        found = read_by_hand(text)
    except Wrong:
        return False
    # Equal, and nothing but tuples, texts, whole numbers and None in it.
    return found == told and repr(found) == repr(told)


BY_HAND = {
    "shares": (2, shares), "backwards": (2, backwards), "alike": (1, alike), "unlike": (1, unlike), "turns": (2, turns),
    "fits": (3, fits), "within": (4, within), "beyond": (4, beyond), "apart": (4, apart), "in trees": (3, in_trees),
    "remains": (3, remains), "alike at": (4, alike_at), "unlike at": (4, unlike_at), "told by": (2, told_by),
    "told by none": (1, told_by_none), "row": (3, row), "seen alike": (2, seen_alike), "seen unlike": (2, seen_unlike),
    "seen both ways": (1, both_ways), "seen one way": (1, one_way), "needs": (2, needs), "reads": (2, reads),
}


def accepts_by_hand(claim, paper):
    """Whether the paper is one for the claim."""
    if type(claim) is not tuple or not claim or type(claim[0]) is not str or claim[0] not in BY_HAND:
        return False
    many, told = BY_HAND[claim[0]]
    if len(claim) != many + 1:
        return False
    if type(paper) is not tuple:
        return False
    return told(*claim[1:], paper)
