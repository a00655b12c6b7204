"""Apart: heights and flows driven between two places, what they cost, and how far places are apart."""

from backwalks.errors import InvalidFlow, InvalidNumber, InvalidRow, InvalidTable, InvalidWeights
from backwalks.exact import (NIL, ONE, inverse, is_fraction, is_fraction_row, is_place, minus, opposite, over, plus,
                             solved, times, total)
from backwalks.walks import MOST_PLACES, tree_square
from backwalks.weights import check_weights, is_mirrored, is_weights, ties_of

MINUS_ONE = (-1, 1)
TWO = (2, 1)


def check_place(weights, place):
    if not is_place(place, len(weights)):
        raise InvalidNumber(place)


def check_ends(weights, one, two):
    """Check the weights and two unlike places of theirs."""
    check_weights(weights)
    check_place(weights, one)
    check_place(weights, two)
    if one == two:
        raise InvalidNumber(two)


def driving_heights(weights, one, two):
    """The heights that drive a flow between two unlike places, those of the second one being 0."""
    others = [place for place in range(len(weights)) if place != two]
    # What goes out at each place, by heights, is the square of [20] times them.
    going_out = [[ONE if place == one else NIL] for place in others]
    heights = [row[0] for row in solved(tree_square(weights, two), going_out)]
    return tuple(heights[:two] + [NIL] + heights[two:])


def driven_flow(weights, heights):
    """The flow that the heights drive."""
    places = range(len(weights))
    return tuple([tuple([times(weights[here][there], minus(heights[here], heights[there])) for there in places])
                  for here in places])


def heights_of(weights, one, two):
    """The driving heights from the one place to the other one."""
    check_ends(weights, one, two)
    return driving_heights(weights, one, two)


def flow_of(weights, one, two):
    """The flow driven from the one place to the other one."""
    check_ends(weights, one, two)
    return driven_flow(weights, driving_heights(weights, one, two))


def apart(weights, one, two):
    """How far two places are apart; a place and itself by 0."""
    check_weights(weights)
    check_place(weights, one)
    check_place(weights, two)
    if one == two:
        return NIL
    return driving_heights(weights, one, two)[one]


def goes_by_ties(weights, table):
    """Whether a table of fractions is 0 where no tie is, and each way the opposite of the way back."""
    for here, row in enumerate(table):
        for there, number in enumerate(row):
            if number != opposite(table[there][here]):
                return False
            if number != NIL and weights[here][there] == NIL:
                return False
    return True


def going_out_of(place, one, two):
    """What goes out of a place in a flow from the one to the other one."""
    if place == one:
        return ONE
    if place == two:
        return MINUS_ONE
    return NIL


def is_flow_between(weights, one, two, value):
    """Whether any value is a flow between these two unlike places."""
    many = len(weights)
    if not isinstance(value, tuple) or len(value) != many:
        return False
    if not all([is_fraction_row(row, many) for row in value]) or not goes_by_ties(weights, value):
        return False
    return all([total(row) == going_out_of(place, one, two) for place, row in enumerate(value)])


def is_flow(weights, one, two, value):
    """Whether any value is a flow from the one place to the other one."""
    check_ends(weights, one, two)
    return is_flow_between(weights, one, two, value)


def cost_of_flow(weights, flow):
    """The sum, over the ties, of the flow's square over the weight."""
    return total([over(times(flow[here][there], flow[here][there]), weights[here][there])
                  for here, there in ties_of(weights)])


def flow_cost(weights, one, two, flow):
    """The cost of a flow from the one place to the other one."""
    check_ends(weights, one, two)
    if not is_flow_between(weights, one, two, flow):
        raise InvalidFlow(flow)
    return cost_of_flow(weights, flow)


def check_heights(weights, heights):
    if not isinstance(heights, tuple) or len(heights) != len(weights):
        raise InvalidRow(None)
    for index, height in enumerate(heights):
        if not is_fraction(height):
            raise InvalidRow(index)


def height_cost(weights, heights):
    """The cost of heights: the sum, over the ties, of the weight times the difference's square."""
    check_weights(weights)
    check_heights(weights, heights)
    costs = []
    for here, there in ties_of(weights):
        difference = minus(heights[here], heights[there])
        costs.append(times(weights[here][there], times(difference, difference)))
    return total(costs)


def with_more(weights, one, two, more):
    """The weights with more, or less, on the tie between two places."""
    check_ends(weights, one, two)
    if not is_fraction(more):
        raise InvalidNumber(more)
    rows = [list(row) for row in weights]
    rows[one][two] = plus(weights[one][two], more)
    rows[two][one] = rows[one][two]
    told = tuple([tuple(row) for row in rows])
    if not is_weights(told):
        raise InvalidWeights(told)
    return told


def in_all(weights):
    """The weight in all: the sum of all numbers."""
    check_weights(weights)
    return total([total(row) for row in weights])


def there_and_back(weights, one, two):
    """In how many steps, on the mean, the walk goes from the one place to the other one and back."""
    check_ends(weights, one, two)
    return times(in_all(weights), apart(weights, one, two))


def apart_table(weights):
    """The table of how far all places are apart."""
    check_weights(weights)
    many = len(weights)
    rows = [[NIL] * many for _ in range(many)]
    for one in range(many):
        for two in range(one):
            rows[one][two] = driving_heights(weights, one, two)[one]
            rows[two][one] = rows[one][two]
    return tuple([tuple(row) for row in rows])


def check_table(table):
    if not isinstance(table, tuple) or not 1 <= len(table) <= MOST_PLACES:
        raise InvalidTable(table)
    if not all([is_fraction_row(row, len(table)) for row in table]):
        raise InvalidTable(table)


def heights_by_table(table):
    """By a table of how far places are apart, the heights at each place when each is driven to the last one."""
    last = len(table) - 1
    square = []
    for here in range(last):
        sums = [minus(plus(table[here][last], table[last][there]), table[here][there]) for there in range(last)]
        square.append([over(both, TWO) for both in sums])
    return square


def weights_by_square(square):
    """The table of numbers between places of which this is the square of [20], the last place left out."""
    rows = []
    for here, row in enumerate(square):
        ties = [NIL if there == here else opposite(number) for there, number in enumerate(row)]
        rows.append(tuple(ties + [total(row)]))
    return tuple(rows + [tuple([row[-1] for row in rows] + [NIL])])


def weights_for(table):
    """The weights, 0 at each place and itself, that have this apart table; None."""
    check_table(table)
    if not is_mirrored(table) or any([row[place] != NIL for place, row in enumerate(table)]):
        return None
    square = inverse(heights_by_table(table))
    if square is None:
        return None
    told = weights_by_square(square)
    return told if is_weights(told) else None
