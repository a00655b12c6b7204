"""Glasses that take some places for one: sighted walks, chances of rows of marks, states and sights."""

from backwalks.errors import InvalidGlasses, InvalidNumber, InvalidRow, InvalidSighted
from backwalks.exact import common_bottom, is_place, is_whole, lowest, scaled_by, scaled_row, total, whole_dot
from backwalks.walks import MOST_PLACES, is_walk, shares_of

LONGEST_ROW = 40


def are_marks(many, value):
    """Whether any value is glasses of so many places."""
    if not isinstance(value, tuple) or len(value) != many:
        return False
    if not all([is_whole(mark) and mark >= 0 for mark in value]):
        return False
    # As many unlike marks as there are numbers up to the greatest one: so none of these is left out.
    return len(set(value)) == max(value) + 1


def is_glasses(many, value):
    """Whether any value is glasses of so many places."""
    if not is_whole(many) or not 1 <= many <= MOST_PLACES:
        raise InvalidNumber(many)
    return are_marks(many, value)


def is_sighted(value):
    """Whether any value is a sighted walk."""
    if not isinstance(value, tuple) or len(value) != 2:
        return False
    walk, glasses = value
    return is_walk(walk) and are_marks(len(walk), glasses)


def number_of_marks(sighted):
    return max(sighted[1]) + 1


def check_sighted(sighted):
    if not is_sighted(sighted):
        raise InvalidSighted(sighted)


def check_marks(sighted, row):
    if not isinstance(row, tuple) or len(row) > LONGEST_ROW:
        raise InvalidRow(None)
    for index, mark in enumerate(row):
        if not is_place(mark, number_of_marks(sighted)):
            raise InvalidRow(index)


def masked(numbers, glasses, mark):
    """The whole numbers, 0 in the place of each whose place has another mark."""
    return [number if each == mark else 0 for number, each in zip(numbers, glasses)]


def whole_chances(walk):
    """The walk's chances times the least number that makes all of them whole, and this number."""
    bottom = common_bottom([chance for row in walk for chance in row])
    return ([scaled_by(row, bottom) for row in walk], bottom)


def state_after(sighted, row):
    """The state of the row."""
    walk, glasses = sighted
    shares = shares_of(walk)
    rows, bottom = whole_chances(walk)
    columns = list(zip(*rows))
    # In whole numbers over one divisor: fractions would be brought to lowest terms at each mark.
    numbers, divisor = scaled_row(shares), common_bottom(shares)
    for mark in row:
        numbers = masked([whole_dot(numbers, column) for column in columns], glasses, mark)
        divisor = divisor * bottom
    return tuple([lowest(number, divisor) for number in numbers])


def sight_before(sighted, row):
    """The sight of the row."""
    walk, glasses = sighted
    rows, bottom = whole_chances(walk)
    numbers, divisor = [1] * len(walk), 1
    for mark in reversed(row):
        seen = masked(numbers, glasses, mark)
        numbers = [whole_dot(chances, seen) for chances in rows]
        divisor = divisor * bottom
    return tuple([lowest(number, divisor) for number in numbers])


def state_of(sighted, row):
    """The state of the row."""
    check_sighted(sighted)
    check_marks(sighted, row)
    return state_after(sighted, row)


def row_chance(sighted, row):
    """The chance of the row."""
    return total(state_of(sighted, row))


def sight_of(sighted, row):
    """The sight of the row."""
    check_sighted(sighted)
    check_marks(sighted, row)
    return sight_before(sighted, row)


def keeps_together(glasses, own):
    """Whether the glasses take all places for one that its own glasses take for one."""
    pairs = list(zip(own, glasses))
    return len(set(pairs)) == len(set(own))


def put_together(sighted, glasses):
    """The sighted walk with these glasses in the place of its own."""
    check_sighted(sighted)
    walk, own = sighted
    if not are_marks(len(walk), glasses) or not keeps_together(glasses, own):
        raise InvalidGlasses(glasses)
    return (walk, glasses)
