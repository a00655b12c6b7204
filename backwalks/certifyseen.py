"""Claims with papers for the checker: what is seen alike, what is seen both ways, and how many places show it."""

from backwalks.backward import backward
from backwalks.exact import first_other_than_nil, left_over, lowest, shared_divisor, shortened, solved, times
from backwalks.seen import basis, heads, parting, states_and_steps, tails, telling


def telling_columns(states):
    """As many columns as there are states, none of these a combination of others, by which they stay so."""
    leads = []
    for numbers in states:
        leads.append(left_over(numbers, leads))
    return [first_other_than_nil(lead) for lead in leads]


def as_fractions(rows):
    """Rows of whole numbers as rows of fractions."""
    return [[(number, 1) for number in row] for row in rows]


def combinations_of(states, steps):
    """For each of the steps the row of fractions with which the states, added up, are the step."""
    columns = telling_columns(states)
    # Solved for what is left when common divisors are taken out: they would make all numbers far longer.
    square = [[shortened(state)[column] for state in states] for column in columns]
    sides = [[shortened(step)[column] for step in steps] for column in columns]
    found = solved(as_fractions(square), as_fractions(sides))
    rows, divisors = [], [shared_divisor(state) for state in states]
    for step, numbers in zip(steps, list(zip(*found))):
        shared = shared_divisor(step)
        rows.append(tuple([times(number, lowest(shared, divisor)) for number, divisor in zip(numbers, divisors)]))
    return rows


def basis_paper(one, other):
    """The basis, and for each of its rows, and each mark behind it, what combination of the basis its state is."""
    rows = basis(one, other)
    states, steps = states_and_steps(one, other, rows)
    found, marks = combinations_of(states, [step for behind in steps for step in behind]), len(steps[0])
    return (rows, tuple([tuple(found[at * marks:(at + 1) * marks]) for at in range(len(rows))]))


def certify_seen(one, other):
    """Whether all rows have the same chances in both: the claim that is so, and a paper."""
    row = parting(one, other)
    if row is None:
        return (("seen alike", one, other), basis_paper(one, other))
    return (("seen unlike", one, other), row)


def certify_sight(sighted):
    """Whether all rows have the chances of the rows turned: the claim that is so, and a paper."""
    row = telling(sighted)
    if row is None:
        walk, glasses = sighted
        return (("seen both ways", sighted), basis_paper(sighted, (backward(walk), glasses)))
    return (("seen one way", sighted), row)


def certify_rank(sighted):
    """How many places a walk must have, whatever its glasses, to be seen alike: the claim, and a paper."""
    rows = heads(sighted)
    return (("needs", sighted, len(rows)), (rows, tails(sighted)))
