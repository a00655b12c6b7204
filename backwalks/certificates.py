"""Claims with papers for the checker: which way time goes, and turns."""

from backwalks.backward import unlike_ring
from backwalks.turning import turns_of
from backwalks.walks import flows_of


def certify_way(walk):
    """Whether the walk is alike backwards: the claim that is so, and a paper."""
    ring = unlike_ring(walk)
    if ring is None:
        # A walk alike backwards is that of its flows.
        return (("alike", walk), flows_of(walk))
    return (("unlike", walk), ring)


def certify_turns(walk):
    """Turns of the walk: the claim, and a paper."""
    return (("turns", walk, turns_of(walk)), ())
