"""Exact numbers: fractions as pairs in lowest terms, and determinants of squares of them."""

from math import gcd, lcm

NIL = (0, 1)
ONE = (1, 1)


def is_whole(value):
    """Whether any value is a whole number; True and False are none."""
    return isinstance(value, int) and not isinstance(value, bool)


def is_place(value, many):
    """Whether any value is one of so many places."""
    return is_whole(value) and 0 <= value < many


def is_fraction(value):
    """Whether any value is a fraction."""
    if not isinstance(value, tuple) or len(value) != 2:
        return False
    top, bottom = value
    return is_whole(top) and is_whole(bottom) and bottom > 0 and gcd(top, bottom) == 1


def is_from_nil(value):
    """Whether any value is a fraction from 0 on."""
    return is_fraction(value) and value[0] >= 0


def lowest(top, bottom):
    """The fraction of two whole numbers, the second one not 0."""
    shared = gcd(top, bottom)
    if bottom < 0:
        shared = -shared
    return (top // shared, bottom // shared)


def plus(one, other):
    return lowest(one[0] * other[1] + other[0] * one[1], one[1] * other[1])


def minus(one, other):
    return lowest(one[0] * other[1] - other[0] * one[1], one[1] * other[1])


def times(one, other):
    return lowest(one[0] * other[0], one[1] * other[1])


def over(one, other):
    """The first fraction over the second one, which is not 0."""
    return lowest(one[0] * other[1], one[1] * other[0])


def total(fractions):
    """The sum of a row of fractions."""
    result = NIL
    for fraction in fractions:
        result = plus(result, fraction)
    return result


def product_of(fractions):
    """The product of a row of fractions."""
    top, bottom = 1, 1
    # Brought to lowest terms once, at the end: in a long row each time would take far longer.
    for fraction in fractions:
        top *= fraction[0]
        bottom *= fraction[1]
    return lowest(top, bottom)


def common_bottom(fractions):
    """The least number that each of the fractions times it is whole."""
    shared = 1
    for fraction in fractions:
        shared = lcm(shared, fraction[1])
    return shared


def pivot_row(square):
    """The first row that does not begin with 0; None."""
    for at, row in enumerate(square):
        if row[0] != 0:
            return at
    return None


def condensed(square, divisor):
    """The square one smaller that is left when the first row has cleared the first column."""
    lead = square[0]
    columns = range(1, len(lead))
    # By Bareiss: what is divided is a minor times the divisor, the pivot ahead, so no rest is left.
    return [[(row[at] * lead[0] - row[0] * lead[at]) // divisor for at in columns] for row in square[1:]]


def whole_determinant(rows):
    """The determinant of a square of whole numbers."""
    square, sign, divisor = rows, 1, 1
    while len(square) > 0:
        pivot = pivot_row(square)
        if pivot is None:
            return 0
        # The row goes to the top past each row ahead of it, so the sign turns as often.
        if pivot % 2 == 1:
            sign = -sign
        square = [square[pivot]] + square[:pivot] + square[pivot + 1:]
        square, divisor = condensed(square, divisor), square[0][0]
    return sign * divisor


def determinant(rows):
    """The determinant of a square of fractions."""
    bottoms = [common_bottom(row) for row in rows]
    scaled = [[top * (shared // bottom) for top, bottom in row] for row, shared in zip(rows, bottoms)]
    return product_of([(whole_determinant(scaled), 1)] + [(1, shared) for shared in bottoms])
