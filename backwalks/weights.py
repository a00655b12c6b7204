"""Weights: what are some, the walk of them, and those of a walk that is alike backwards."""

from backwalks.backward import unlike_ring
from backwalks.errors import InvalidWeights, NotAlike
from backwalks.exact import over, total
from backwalks.walks import flows_of, is_table, is_whole_table


def is_mirrored(table):
    """Whether a square has the same number at each two places, both ways."""
    return tuple(zip(*table)) == table


def is_weights(value):
    """Whether any value is weights."""
    if not is_table(value) or not is_mirrored(value) or not is_whole_table(value):
        return False
    return all([total(row)[0] > 0 for row in value])


def check_weights(weights):
    if not is_weights(weights):
        raise InvalidWeights(weights)


def walk_of(weights):
    """The walk that has each row of the weights over its sum."""
    check_weights(weights)
    rows = []
    for row in weights:
        in_all = total(row)
        rows.append(tuple([over(weight, in_all) for weight in row]))
    return tuple(rows)


def weights_of(walk):
    """The flows of a walk that is alike backwards: weights whose walk it is."""
    ring = unlike_ring(walk)
    if ring is not None:
        raise NotAlike(ring)
    return flows_of(walk)


def ties_of(weights):
    """All ties of the weights, in order."""
    places = range(len(weights))
    return [(here, there) for here in places for there in places if here < there and weights[here][there][0] > 0]
