"""Places out of sight: walks watched at a lot of places, what remains of weights there, and weights alike there."""

from itertools import combinations

from backwalks.apart import apart_table
from backwalks.errors import InvalidPlaces
from backwalks.exact import is_place, over, plus, times, total
from backwalks.walks import check_lot, check_walk
from backwalks.weights import check_weights


def without(table, place):
    """The table with one place left out: what goes by way of it is added to what goes straight.

    For a walk, what goes away from the place is what is left to 1 of its staying, so that all rows of steps that
    stay there are counted; for weights it is the sum that [22] tells. So both are left out alike.
    """
    others = [each for each in range(len(table)) if each != place]
    away = total([table[place][there] for there in others])
    rows = []
    for here in others:
        part = over(table[here][place], away)
        rows.append(tuple([plus(table[here][there], times(part, table[place][there])) for there in others]))
    return tuple(rows)


def left_at(table, lot):
    """The table with all places but those of the lot left out."""
    result = table
    # From the last one on, so that the places ahead keep their numbers.
    for place in reversed(range(len(table))):
        if place not in lot:
            result = without(result, place)
    return result


def watched_at(walk, lot):
    """The walk watched at the lot."""
    check_walk(walk)
    check_lot(len(walk), lot)
    return left_at(walk, lot)


def remains(weights, lot):
    """The weights that remain at the lot when the other places are left out."""
    check_weights(weights)
    check_lot(len(weights), lot)
    return left_at(weights, lot)


def check_row_at(lot, other, row):
    """Check that the row tells for each place of the lot one of the other weights, no place twice."""
    if not isinstance(row, tuple) or len(row) != len(lot):
        raise InvalidPlaces(None)
    for index, place in enumerate(row):
        if not is_place(place, len(other)) or place in row[:index]:
            raise InvalidPlaces(index)


def parted_at(weights, lot, other, row):
    """The first pair of indexes of places, in the lot and in the row, that are apart by unlike numbers; None."""
    check_weights(weights)
    check_lot(len(weights), lot)
    check_weights(other)
    check_row_at(lot, other, row)
    table, opposed = apart_table(weights), apart_table(other)
    for first, second in combinations(range(len(lot)), 2):
        if table[lot[first]][lot[second]] != opposed[row[first]][row[second]]:
            return (first, second)
    return None


def are_alike_at(weights, lot, other, row):
    """Whether the weights at the lot, and the other ones at the row, are alike."""
    return parted_at(weights, lot, other, row) is None
