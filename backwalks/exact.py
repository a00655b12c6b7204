"""Exact numbers: fractions as pairs in lowest terms, and determinants and inverses of squares of them."""

from math import gcd, lcm

NIL = (0, 1)
ONE = (1, 1)


def is_whole(value):
    """Whether any value is a whole number; True and False are none."""
    return isinstance(value, int) and not isinstance(value, bool)


def is_place(value, many):
    """Whether any value is one of so many places."""
    return is_whole(value) and 0 <= value < many


def is_fraction(value):
    """Whether any value is a fraction."""
    if not isinstance(value, tuple) or len(value) != 2:
        return False
    top, bottom = value
    return is_whole(top) and is_whole(bottom) and bottom > 0 and gcd(top, bottom) == 1


def is_from_nil(value):
    """Whether any value is a fraction from 0 on."""
    return is_fraction(value) and value[0] >= 0


def is_fraction_row(value, many):
    """Whether any value is a row of so many fractions."""
    return isinstance(value, tuple) and len(value) == many and all([is_fraction(number) for number in value])


def lowest(top, bottom):
    """The fraction of two whole numbers, the second one not 0."""
    shared = gcd(top, bottom)
    if bottom < 0:
        shared = -shared
    return (top // shared, bottom // shared)


def plus(one, other):
    return lowest(one[0] * other[1] + other[0] * one[1], one[1] * other[1])


def minus(one, other):
    return lowest(one[0] * other[1] - other[0] * one[1], one[1] * other[1])


def times(one, other):
    return lowest(one[0] * other[0], one[1] * other[1])


def over(one, other):
    """The first fraction over the second one, which is not 0."""
    return lowest(one[0] * other[1], one[1] * other[0])


def opposite(fraction):
    return (-fraction[0], fraction[1])


def is_below(one, other):
    return one[0] * other[1] < other[0] * one[1]


def least(fractions):
    """The least one of one or more fractions."""
    result = fractions[0]
    for fraction in fractions:
        if is_below(fraction, result):
            result = fraction
    return result


def total(fractions):
    """The sum of a row of fractions."""
    result = NIL
    for fraction in fractions:
        result = plus(result, fraction)
    return result


def product_of(fractions):
    """The product of a row of fractions."""
    top, bottom = 1, 1
    # Brought to lowest terms once, at the end: in a long row each time would take far longer.
    for fraction in fractions:
        top *= fraction[0]
        bottom *= fraction[1]
    return lowest(top, bottom)


def common_bottom(fractions):
    """The least number that each of the fractions times it is whole."""
    shared = 1
    for fraction in fractions:
        shared = lcm(shared, fraction[1])
    return shared


def scaled_row(row):
    """The row of fractions times the least number that makes it whole."""
    return scaled_by(row, common_bottom(row))


def scaled_by(row, number):
    """The row of fractions times a number that makes it whole."""
    return [top * (number // bottom) for top, bottom in row]


def multiplied(numbers, factor):
    """The row of whole numbers times a whole number."""
    return [number * factor for number in numbers]


def whole_dot(one, other):
    """The sum, place by place, of two rows of whole numbers multiplied."""
    return sum([number * factor for number, factor in zip(one, other)])


def pivot_from(rows, at):
    """The first row from this index on that is not 0 in this column; None."""
    for index in range(at, len(rows)):
        if rows[index][at] != 0:
            return index
    return None


def cleared(rows, at, divisor):
    """The rows when the one at this index has cleared the column of this index from all others."""
    lead, result = rows[at], []
    for index, row in enumerate(rows):
        if index == at:
            result.append(row)
        else:
            # By Bareiss: what is divided is a minor times the divisor, the pivot ahead, so no rest is left.
            result.append([(number * lead[at] - row[at] * top) // divisor for number, top in zip(row, lead)])
    return result


def reduced(rows):
    """The rows of whole numbers, each cleared from the others, and the determinant of the square that they begin with.

    Each row is then 0 in the square, but for the determinant at its own index.
    """
    result, divisor = list(rows), 1
    for at in range(len(rows)):
        pivot = pivot_from(result, at)
        if pivot is None:
            return (result, 0)
        if pivot != at:
            # One of both is turned over, so that the determinant keeps its sign.
            result[at], result[pivot] = [-number for number in result[pivot]], result[at]
        result, divisor = cleared(result, at, divisor), result[at][at]
    return (result, divisor)


def determinant(rows):
    """The determinant of a square of fractions."""
    bottoms = [(1, common_bottom(row)) for row in rows]
    return product_of([(reduced([scaled_row(row) for row in rows])[1], 1)] + bottoms)


def solved(square, sides):
    """The rows that the square, times them, makes the rows of sides; None if its determinant is 0."""
    rows, bottom = reduced([scaled_row([*row, *side]) for row, side in zip(square, sides)])
    if bottom == 0:
        return None
    return [[lowest(number, bottom) for number in row[len(square):]] for row in rows]


def inverse(square):
    """The inverse of a square of fractions; None if its determinant is 0."""
    places = range(len(square))
    return solved(square, [[ONE if here == there else NIL for there in places] for here in places])


def shared_divisor(numbers):
    """The greatest common divisor of a row of whole numbers, 0 for a row of 0 alone."""
    shared = 0
    for number in numbers:
        shared = gcd(shared, number)
    return shared


def shortened(numbers):
    """The row of whole numbers over its greatest common divisor."""
    shared = shared_divisor(numbers)
    return [number // shared for number in numbers] if shared > 1 else numbers


def first_other_than_nil(numbers):
    """The first index at which a row of whole numbers, not 0 alone, is not 0."""
    return [number != 0 for number in numbers].index(True)


def left_over(numbers, leads):
    """What is left of a row of whole numbers when each of the leads has cleared its first column from it.

    Of leads that are each what was left over of a row, those ahead cleared, it is 0 alone exactly if the row is a
    combination of them.
    """
    result = numbers
    for lead in leads:
        at = first_other_than_nil(lead)
        # Shortened each time, as it would grow with each lead otherwise.
        result = shortened([number * lead[at] - result[at] * top for number, top in zip(result, lead)])
    return result
