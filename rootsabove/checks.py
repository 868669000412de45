"""What a value is, and the error of each parameter that does not hang on one module alone."""

from math import gcd

from rootsabove.errors import (
    InvalidBorder, InvalidCounts, InvalidFraction, InvalidIndex, InvalidNumber, InvalidRoots, InvalidRow, InvalidRows,
    InvalidSquares,
)
from rootsabove.quotients import is_above, whole_row
from rootsabove.wholes import rest_beside

MOST_ROWS = 5
MOST_ROOTS = 6
MOST_MANY = 1000


def is_whole(value):
    # True and False are integers to isinstance, but no numbers here.
    return type(value) is int


def is_whole_within(value, least, most):
    return is_whole(value) and least <= value <= most


def is_tuple_of(value, size):
    return type(value) is tuple and len(value) == size


def is_fraction(value):
    if not is_tuple_of(value, 2):
        return False
    number, under = value
    return is_whole(number) and is_whole(under) and under > 0 and gcd(number, under) == 1


def is_row(value, size):
    return is_tuple_of(value, size) and first_unlike_fraction(value) is None


def is_counts(value, most):
    """Whether the value is a triple of whole numbers from 0 on with a sum from 1 to most."""
    if not is_tuple_of(value, 3):
        return False
    return all(is_whole(part) and part >= 0 for part in value) and 1 <= sum(value) <= most


def first_unlike_fraction(values):
    """The index of the first value that is no fraction; None if all are."""
    for index, value in enumerate(values):
        if not is_fraction(value):
            return index
    return None


def check_fraction(number):
    if not is_fraction(number):
        raise InvalidFraction(number)


def check_fraction_from(number, least):
    """Checks a fraction from the least one on."""
    if not is_fraction(number) or is_above(least, number):
        raise InvalidFraction(number)


def check_fraction_below(number, bound):
    if not is_fraction(number) or not is_above(bound, number):
        raise InvalidFraction(number)


def check_index(index, size):
    if not is_whole_within(index, 0, size - 1):
        raise InvalidIndex(index)


def check_number(number, most):
    """Checks a whole number from 1 to most."""
    if not is_whole_within(number, 1, most):
        raise InvalidNumber(number)


def check_many(many):
    check_number(many, MOST_MANY)


def check_above(above, size):
    """Checks how many roots are to be above, of a table of so many rows."""
    if not is_whole_within(above, 0, size):
        raise InvalidIndex(above)


def check_counts(counts, most):
    """Checks a triple of counts with a sum from 1 to most."""
    if not is_counts(counts, most):
        raise InvalidCounts(counts)


def check_counts_of(counts, size):
    """Checks a triple of counts with just this sum."""
    if not is_counts(counts, size) or sum(counts) != size:
        raise InvalidCounts(counts)


def check_row(row, size):
    if not is_tuple_of(row, size):
        raise InvalidRow(None)
    wrong = first_unlike_fraction(row)
    if wrong is not None:
        raise InvalidRow(wrong)


def check_row_up_to(row, most):
    """Checks a row of 1 to most fractions."""
    if type(row) is not tuple or not 1 <= len(row) <= most:
        raise InvalidRow(None)
    check_row(row, len(row))


def check_squares(squares, size):
    """Checks so many fractions from 0 on."""
    if not is_tuple_of(squares, size):
        raise InvalidSquares(None)
    for index, square in enumerate(squares):
        if not is_fraction(square) or square[0] < 0:
            raise InvalidSquares(index)


def check_border(border, size):
    """Checks a border of a table of so many rows."""
    if type(border) is not tuple or not 1 <= len(border) <= MOST_ROWS - size:
        raise InvalidBorder(None)
    for index, row in enumerate(border):
        if not is_row(row, size):
            raise InvalidBorder(index)


def check_rows(rows, size):
    if type(rows) is not tuple or len(rows) == 0:
        raise InvalidRows(None)
    leads = []
    for index, row in enumerate(rows):
        if not is_row(row, size):
            raise InvalidRows(index)
        rest = rest_beside(whole_row(row), leads)
        if not any(rest):
            raise InvalidRows(index)
        leads.append(rest)


def check_roots(roots):
    check_roots_of(roots, 1, MOST_ROOTS)


def check_roots_of(roots, least, most):
    """Checks told roots, from least to most of them, and never none."""
    if type(roots) is not tuple or not max(1, least) <= len(roots) <= most:
        raise InvalidRoots(None)
    for index, root in enumerate(roots):
        if not is_fraction(root) or index > 0 and is_above(root, roots[index - 1]):
            raise InvalidRoots(index)
