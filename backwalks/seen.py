"""Rows of marks of whatever length: what is seen alike, what is seen both ways, and how many places show it."""

from backwalks.backward import backward
from backwalks.errors import InvalidSighted
from backwalks.exact import NIL, left_over, multiplied, opposite, scaled_row, shortened, whole_dot
from backwalks.glasses import check_sighted, is_sighted, masked, number_of_marks, whole_chances
from backwalks.walks import shares_of


def check_other(one, other):
    if not is_sighted(other) or number_of_marks(other) != number_of_marks(one):
        raise InvalidSighted(other)


def taken_rows(start, longer, views):
    """The rows, each with its numbers, that are taken when all are gone through in order.

    A row is taken if its numbers times each of the views are no combination of those of the rows taken ahead. Of each
    taken one `longer` tells the rows of one mark more; those of others are combinations, as these are.
    """
    taken, leads, waiting = [], [], [((), start)]
    while waiting:
        fresh = []
        for row, numbers in waiting:
            left = left_over([whole_dot(numbers, view) for view in views], leads)
            if any([number != 0 for number in left]):
                leads.append(left)
                fresh.append((row, numbers))
        taken.extend(fresh)
        waiting = sorted([each for row, numbers in fresh for each in longer(row, numbers)])
    return taken


def units(many):
    """Views that leave numbers as they are."""
    places = range(many)
    return [[1 if here == there else 0 for there in places] for here in places]


def states_taken(table, glasses, start, views):
    """The rows that are taken by their states, each with it, times some number above 0."""
    rows, _ = whole_chances(table)
    columns, marks = list(zip(*rows)), list(range(max(glasses) + 1))

    def longer(row, numbers):
        gone = shortened([whole_dot(numbers, column) for column in columns])
        return [(row + (mark,), masked(gone, glasses, mark)) for mark in marks]

    return taken_rows(scaled_row(start), longer, views)


def sights_taken(table, glasses, views):
    """The rows that are taken by their sights, each with it, times some number above 0."""
    rows, _ = whole_chances(table)
    marks = list(range(max(glasses) + 1))

    def longer(row, numbers):
        behind = [((mark,) + row, masked(numbers, glasses, mark)) for mark in marks]
        return [(each, shortened([whole_dot(chances, seen) for chances in rows])) for each, seen in behind]

    return taken_rows([1] * len(table), longer, views)


def joined_table(one, other):
    """Both walks in one table, the places of the other one behind those of the first one."""
    many, others = len(one[0]), len(other[0])
    upper = [row + (NIL,) * others for row in one[0]]
    lower = [(NIL,) * many + row for row in other[0]]
    return upper + lower


def joined_shares(one, other):
    """The joined state of the row of no marks."""
    return shares_of(one[0]) + tuple([opposite(share) for share in shares_of(other[0])])


def joined_states(one, other):
    """The rows of the basis, each with its joined state, times some number above 0."""
    check_sighted(one)
    check_other(one, other)
    table = joined_table(one, other)
    return states_taken(table, one[1] + other[1], joined_shares(one, other), units(len(table)))


def states_and_steps(one, other, rows):
    """The joined states of the rows, and of each of them those with each mark behind it, all times one number above 0.

    The first row is (), each other one is one of those ahead of it and a mark.
    """
    chances, bottom = whole_chances(joined_table(one, other))
    columns, glasses = list(zip(*chances)), one[1] + other[1]
    numbers, gone, scales = {}, {}, [1]
    for row in rows:
        numbers[row] = scaled_row(joined_shares(one, other)) if row == () else masked(gone[row[:-1]], glasses, row[-1])
        gone[row] = [whole_dot(numbers[row], column) for column in columns]
    # Each mark has multiplied by the same number once more.
    longest = max([len(row) for row in rows])
    for _ in range(longest + 1):
        scales.append(scales[-1] * bottom)
    states, steps = [], []
    for row in rows:
        states.append(multiplied(numbers[row], scales[longest + 1 - len(row)]))
        behind = multiplied(gone[row], scales[longest - len(row)])
        steps.append([masked(behind, glasses, mark) for mark in range(number_of_marks(one))])
    return (states, steps)


def basis(one, other):
    """The rows of the basis, in order."""
    return tuple([row for row, _ in joined_states(one, other)])


def parting(one, other):
    """The first row, in order, of unlike chances; None."""
    for row, numbers in joined_states(one, other):
        if sum(numbers) != 0:
            return row
    return None


def seen_alike(one, other):
    """Whether all rows have the same chances in both."""
    return parting(one, other) is None


def telling(sighted):
    """The first row, in order, the chance of which is unlike that of the row turned; None."""
    check_sighted(sighted)
    walk, glasses = sighted
    # A row is seen of the walk backwards with the chance of the row turned.
    return parting(sighted, (backward(walk), glasses))


def both_ways(sighted):
    """Whether all rows have the chances of the rows turned."""
    return telling(sighted) is None


def heads(sighted):
    """The rows, in order, whose chances with all rows behind them are no combination of those of heads ahead."""
    check_sighted(sighted)
    walk, glasses = sighted
    sights = [numbers for _, numbers in sights_taken(walk, glasses, units(len(walk)))]
    return tuple([row for row, _ in states_taken(walk, glasses, shares_of(walk), sights)])


def tails(sighted):
    """The rows, in order, whose chances with all rows ahead of them are no combination of those of tails ahead."""
    check_sighted(sighted)
    walk, glasses = sighted
    states = [numbers for _, numbers in states_taken(walk, glasses, shares_of(walk), units(len(walk)))]
    return tuple([row for row, _ in sights_taken(walk, glasses, states)])


def rank(sighted):
    """The rank: how many heads there are."""
    return len(heads(sighted))
