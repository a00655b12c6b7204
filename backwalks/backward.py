"""Which way time goes: the walk backwards, and rings that show that it is another one."""

from itertools import permutations

from backwalks.errors import InvalidRing
from backwalks.exact import is_place, over, product_of
from backwalks.walks import check_walk, flows_of, shares_of

SHORTEST = 3


def backward(walk):
    """The walk as it looks when time goes backwards."""
    shares, flows = shares_of(walk), flows_of(walk)
    places = range(len(walk))
    return tuple([tuple([over(flows[there][here], shares[here]) for there in places]) for here in places])


def is_alike(walk):
    """Whether the walk is alike backwards."""
    return backward(walk) == walk


def is_way(value, many):
    """Whether any value is three or more unlike ones of so many places, the first one the least."""
    if not isinstance(value, tuple) or len(value) < SHORTEST:
        return False
    if not all([is_place(place, many) for place in value]):
        return False
    return len(set(value)) == len(value) and value[0] == min(value)


def is_ring(walk, value):
    """Whether any value is a ring of the walk's places."""
    check_walk(walk)
    # Of the two ways round, a ring is told by the one whose second place is the lesser one.
    return is_way(value, len(walk)) and value[1] < value[-1]


def ring_products(walk, ring):
    """The products of the chances of the ring's steps, around and the other way round."""
    ends = ring[1:] + ring[:1]
    around = [walk[here][there] for here, there in zip(ring, ends)]
    back = [walk[there][here] for here, there in zip(ring, ends)]
    return (product_of(around), product_of(back))


def products(walk, ring):
    """The pair of the ring's products."""
    if not is_ring(walk, ring):
        raise InvalidRing(ring)
    return ring_products(walk, ring)


def rings_of(many):
    """All rings of so many places, by how many places they have, then in order."""
    rings = []
    for length in range(SHORTEST, many + 1):
        for places in permutations(range(many), length):
            if places[0] == min(places) and places[1] < places[-1]:
                rings.append(places)
    return rings


def unlike_ring(walk):
    """The first ring, by how many places, then in order, whose products are unlike; None."""
    check_walk(walk)
    for ring in rings_of(len(walk)):
        around, back = ring_products(walk, ring)
        if around != back:
            return ring
    return None
