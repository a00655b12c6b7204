"""Claims with papers for the checker: how far weights hold two places apart, trees by weights, and weights alike."""

from backwalks.apart import apart, driven_flow, driving_heights
from backwalks.errors import InvalidNumber
from backwalks.exact import is_below, is_fraction, over
from backwalks.trees import check_few_trees, lot_chance, trees_with
from backwalks.watched import parted_at


def certify_apart(weights, one, two, number):
    """Whether two places are apart by at most the number: the claim that is so, and a paper."""
    least_cost = apart(weights, one, two)
    if one == two:
        raise InvalidNumber(two)
    if not is_fraction(number):
        raise InvalidNumber(number)
    heights = driving_heights(weights, one, two)
    if is_below(number, least_cost):
        return (("beyond", weights, one, two, number), tuple([over(height, least_cost) for height in heights]))
    return (("within", weights, one, two, number), driven_flow(weights, heights))


def certify_trees(weights, ties):
    """With what chance all the ties lie in the tree: the claim, and a paper."""
    chance = lot_chance(weights, ties)
    check_few_trees(weights)
    return (("in trees", weights, ties, chance), trees_with(weights, ties))


def certify_places(weights, lot, other, row):
    """Whether the weights at the lot, and the other ones at the row, are alike: the claim that is so, and a paper."""
    pair = parted_at(weights, lot, other, row)
    if pair is None:
        return (("alike at", weights, lot, other, row), ())
    return (("unlike at", weights, lot, other, row), pair)
