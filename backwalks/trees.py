"""Trees by weights: all of them with their chances, the sum of their weights, and chances of lots of ties."""

from itertools import combinations

from backwalks.apart import check_ends, check_place, driving_heights
from backwalks.errors import InvalidTies, TooMany
from backwalks.exact import NIL, ONE, determinant, is_place, minus, over, product_of, times
from backwalks.walks import leads_to_all, tree_square
from backwalks.weights import check_weights, ties_of

MOST_TREES = 400


def sum_of_trees(weights):
    """The sum of all trees' weights: the determinant of the square, whichever place is left out."""
    return determinant(tree_square(weights, 0))


def number_of_trees(weights):
    """How many trees there are: the sum of their weights if each tie had the weight 1."""
    ties = [[ONE if weight[0] > 0 else NIL for weight in row] for row in weights]
    return sum_of_trees(ties)[0]


def join_all(ties, many):
    """Whether by the ties each of so many places leads to each."""
    links = [[False] * many for _ in range(many)]
    for here, there in ties:
        links[here][there] = True
        links[there][here] = True
    return leads_to_all(links)


def joining(ties, many, size):
    """All choices, in order, of just this size of the ties by which each place leads to each."""
    found = []
    for chosen in combinations(ties, size):
        if join_all(chosen, many):
            found.append(chosen)
    return found


def check_few_trees(weights):
    """Check that the weights have no more trees than are listed."""
    many = number_of_trees(weights)
    if many > MOST_TREES:
        raise TooMany(many)


def list_of_trees(weights):
    """All trees, in order."""
    return joining(ties_of(weights), len(weights), len(weights) - 1)


def trees_with(weights, ties):
    """The tuple of all trees, in order, in which all these ties lie."""
    return tuple([tree for tree in list_of_trees(weights) if all([tie in tree for tie in ties])])


def trees_of(weights):
    """All trees with their chances, in order."""
    check_weights(weights)
    check_few_trees(weights)
    in_all, pairs = sum_of_trees(weights), []
    for tree in list_of_trees(weights):
        weight = product_of([weights[here][there] for here, there in tree])
        pairs.append((tree, over(weight, in_all)))
    return tuple(pairs)


def tree_sum(weights):
    """The sum of all trees' weights."""
    check_weights(weights)
    return sum_of_trees(weights)


def carried_by(weights, heights, start, end):
    """What these heights drive from the start to the end."""
    return times(weights[start][end], minus(heights[start], heights[end]))


def carried(weights, one, two, start, end):
    """What of the flow driven from the one place to the other one goes from the start to the end."""
    check_ends(weights, one, two)
    check_place(weights, start)
    check_place(weights, end)
    return carried_by(weights, driving_heights(weights, one, two), start, end)


def is_tie(weights, value):
    """Whether any value is a tie of the weights."""
    if not isinstance(value, tuple) or len(value) != 2:
        return False
    here, there = value
    if not is_place(here, len(weights)) or not is_place(there, len(weights)):
        return False
    return here < there and weights[here][there][0] > 0


def check_ties(weights, ties):
    if not isinstance(ties, tuple):
        raise InvalidTies(None)
    for index, tie in enumerate(ties):
        if not is_tie(weights, tie) or (index > 0 and tie <= ties[index - 1]):
            raise InvalidTies(index)


def lot_chance(weights, ties):
    """The chance that all these ties lie in the tree."""
    check_weights(weights)
    check_ties(weights, ties)
    square = []
    for one, two in ties:
        heights = driving_heights(weights, one, two)
        square.append([carried_by(weights, heights, start, end) for start, end in ties])
    return determinant(square)
