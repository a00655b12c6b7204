"""Walks made alike backwards: kept within a lot of places, or fitted to told shares."""

from backwalks.errors import InvalidLot, InvalidShares, NotWhole
from backwalks.exact import ONE, is_fraction, least, minus, over, times, total
from backwalks.walks import check_lot, check_walk, is_whole_table


def staying(row, place):
    """The row of steps to other places, with what is left to 1 at the place itself."""
    others = [chance for there, chance in enumerate(row) if there != place]
    rest = minus(ONE, total(others))
    return tuple([rest if there == place else chance for there, chance in enumerate(row)])


def kept(walk, lot):
    """The walk kept within the lot, places counted anew."""
    check_walk(walk)
    check_lot(len(walk), lot)
    rows = [[walk[here][there] for there in lot] for here in lot]
    table = tuple([staying(row, place) for place, row in enumerate(rows)])
    if not is_whole_table(table):
        raise InvalidLot(lot)
    return table


def check_shares(many, shares):
    if not isinstance(shares, tuple) or len(shares) != many:
        raise InvalidShares(None)
    for index, share in enumerate(shares):
        if not is_fraction(share) or share[0] <= 0:
            raise InvalidShares(index)
    if total(shares) != ONE:
        raise InvalidShares(None)


def fitted_step(walk, shares, here, there):
    """The lesser one of the step's chance and the one that would balance the step back."""
    balancing = over(times(shares[there], walk[there][here]), shares[here])
    return least([walk[here][there], balancing])


def fitted(walk, shares):
    """The walk fitted to the shares."""
    check_walk(walk)
    check_shares(len(walk), shares)
    places = range(len(walk))
    rows = [[fitted_step(walk, shares, here, there) for there in places] for here in places]
    table = tuple([staying(row, place) for place, row in enumerate(rows)])
    if not is_whole_table(table):
        raise NotWhole()
    return table
