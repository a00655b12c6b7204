"""Walks: what is one, its shares at rest, trees into a place, flows and the chance of a row of places."""

from backwalks.errors import InvalidLot, InvalidPlaces, InvalidWalk
from backwalks.exact import NIL, ONE, determinant, is_from_nil, is_place, minus, over, product_of, times, total

MOST_PLACES = 6


def is_table_row(value, many):
    """Whether any value is a row of so many fractions from 0 on."""
    return isinstance(value, tuple) and len(value) == many and all([is_from_nil(number) for number in value])


def is_table(value):
    """Whether any value is a table of 1 to 6 places."""
    if not isinstance(value, tuple) or not 1 <= len(value) <= MOST_PLACES:
        return False
    return all([is_table_row(row, len(value)) for row in value])


def leads_to_all(links):
    """Whether place 0 leads to all places by links."""
    found, waiting = {0: True}, [0]
    while waiting:
        here = waiting.pop()
        for there, link in enumerate(links[here]):
            if link and there not in found:
                found[there] = True
                waiting.append(there)
    return len(found) == len(links)


def is_whole_table(table):
    """Whether each place of a table leads to each other one by steps."""
    links = [[number[0] > 0 for number in row] for row in table]
    turned = [list(column) for column in zip(*links)]
    # Each place leads to each other one exactly if place 0 leads to all and all lead to it.
    return leads_to_all(links) and leads_to_all(turned)


def is_walk(value):
    """Whether any value is a walk."""
    if not is_table(value) or not is_whole_table(value):
        return False
    return all([total(row) == ONE for row in value])


def check_walk(walk):
    if not is_walk(walk):
        raise InvalidWalk(walk)


def is_lot(value, many):
    """Whether any value is an ascending tuple of one or more of so many places."""
    if not isinstance(value, tuple) or len(value) == 0:
        return False
    if not all([is_place(place, many) for place in value]):
        return False
    return all([here < there for here, there in zip(value, value[1:])])


def check_lot(many, lot):
    if not is_lot(lot, many):
        raise InvalidLot(lot)


def check_places(walk, places):
    if not isinstance(places, tuple) or len(places) == 0:
        raise InvalidPlaces(None)
    for index, place in enumerate(places):
        if not is_place(place, len(walk)):
            raise InvalidPlaces(index)


def tree_square(table, root):
    """The square of rows' sums less the table, the root's row and column left out.

    By the matrix tree theorem its determinant is the sum, over all trees into the root, of their products.
    """
    others, square = [place for place in range(len(table)) if place != root], []
    for here in others:
        in_all = total(table[here])
        square.append([minus(in_all if there == here else NIL, table[here][there]) for there in others])
    return square


def tree_sums(walk):
    """The row of the sums over the trees into each place."""
    check_walk(walk)
    return tuple([determinant(tree_square(walk, root)) for root in range(len(walk))])


def shares_of(walk):
    """The shares with which the walk is at rest."""
    sums = tree_sums(walk)
    in_all = total(sums)
    return tuple([over(each, in_all) for each in sums])


def flows_of(walk):
    """The table of the flows from each place to each."""
    shares = shares_of(walk)
    return tuple([tuple([times(share, chance) for chance in row]) for share, row in zip(shares, walk)])


def seen_chance(walk, places):
    """The chance of a row of places, at rest."""
    check_walk(walk)
    check_places(walk, places)
    steps = [walk[here][there] for here, there in zip(places, places[1:])]
    return product_of([shares_of(walk)[places[0]]] + steps)
