"""What turns in a walk: the part of its flows that goes both ways alike, and rings that make the rest."""

from backwalks.backward import backward, is_way
from backwalks.exact import is_fraction, least, minus, opposite, over, plus
from backwalks.walks import check_walk, flows_of

TWO = (2, 1)


def lesser_flows(flows):
    """The lesser one of the flows between each two places, both ways."""
    places = range(len(flows))
    return tuple([tuple([least([flows[here][there], flows[there][here]]) for there in places]) for here in places])


def two_way(walk):
    """The table of the walk's two-way part."""
    return lesser_flows(flows_of(walk))


def first_above_nil(row):
    """The index of the first number above 0; None."""
    for index, number in enumerate(row):
        if number[0] > 0:
            return index
    return None


def first_leaving(rest):
    """The first place from which something is left to go; None."""
    for place, row in enumerate(rest):
        if first_above_nil(row) is not None:
            return place
    return None


def way_along(rest, start):
    """The ring to which one comes by going on from the start where something is left."""
    gone, here = [], start
    # As much comes to each place as goes from it, so one never stands where nothing goes on.
    while here not in gone:
        gone.append(here)
        here = first_above_nil(rest[here])
    ring = gone[gone.index(here):]
    first = ring.index(min(ring))
    return tuple(ring[first:] + ring[:first])


def steps_of(way):
    """The steps of a ring, around and back to its first place."""
    return list(zip(way, way[1:] + way[:1]))


def add_to_steps(rows, way, number):
    """Add the number to each step of the way, in the rows themselves."""
    for here, there in steps_of(way):
        rows[here][there] = plus(rows[here][there], number)


def one_way(flows):
    """What of each flow is above the one back, in rows that may be changed."""
    both = lesser_flows(flows)
    places = range(len(flows))
    return [[minus(flows[here][there], both[here][there]) for there in places] for here in places]


def turns_of(walk):
    """Turns of the walk: what of its flows goes one way alone, taken away ring by ring."""
    rest, turns = one_way(flows_of(walk)), []
    start = first_leaving(rest)
    while start is not None:
        way = way_along(rest, start)
        number = least([rest[here][there] for here, there in steps_of(way)])
        add_to_steps(rest, way, opposite(number))
        turns.append((way, number))
        start = first_leaving(rest)
    # Each ring uses up a step of its own, so no way comes twice.
    return tuple(sorted(turns))


def is_turn(value, many):
    """Whether any value is a turn of so many places."""
    if not isinstance(value, tuple) or len(value) != 2:
        return False
    return is_way(value[0], many) and is_fraction(value[1]) and value[1][0] > 0


def are_ascending_turns(value, many):
    """Whether any value is an ascending tuple of turns of so many places, no way told twice."""
    if not isinstance(value, tuple) or not all([is_turn(turn, many) for turn in value]):
        return False
    ways = [turn[0] for turn in value]
    return all([one < other for one, other in zip(ways, ways[1:])])


def are_turns(walk, value):
    """Whether any value is turns of the walk."""
    check_walk(walk)
    if not are_ascending_turns(value, len(walk)):
        return False
    flows = flows_of(walk)
    made = [list(row) for row in lesser_flows(flows)]
    for way, number in value:
        add_to_steps(made, way, number)
    return made == [list(row) for row in flows]


def by_toss(walk):
    """The walk that goes at each step, by a fair coin, as the walk or as the walk backwards."""
    other = backward(walk)
    places = range(len(walk))
    return tuple([tuple([over(plus(walk[here][there], other[here][there]), TWO) for there in places])
                  for here in places])
