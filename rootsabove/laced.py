"""Corners and laced roots, arrows and their counts, the squares of the row of a root that comes once."""

from rootsabove.checks import (
    MOST_ROWS, check_fraction, check_roots, check_roots_of, check_row_up_to, check_squares, is_whole_within,
)
from rootsabove.counts import ABOVE, AT, BELOW, side_of, with_more
from rootsabove.errors import InvalidPlaces
from rootsabove.quotients import NOUGHT, ONE, fraction, is_above, minus, opposite_of, over, plus, times, whole_less
from rootsabove.tables import check_table
from rootsabove.zeros import counts_of, polynomial_of


def check_places(places, size):
    """Checks places of a table of so many rows."""
    if not are_places(places, size):
        raise InvalidPlaces(places)


def are_places(value, size):
    if type(value) is not tuple or len(value) == 0:
        return False
    if not all(is_whole_within(place, 0, size - 1) for place in value):
        return False
    return all(one < other for one, other in zip(value, value[1:]))


def corner_of(table, places):
    """The rows and the numbers in them at the places alone."""
    check_table(table)
    check_places(places, len(table))
    return tuple(tuple(row) for row in corner_rows(table, places))


def corner_rows(rows, places):
    return [[rows[i][j] for j in places] for i in places]


def check_fewer(roots, others):
    check_roots(roots)
    check_roots_of(others, 1, len(roots) - 1)


def is_laced(roots, others):
    """Whether the roots are laced with the others, which are fewer."""
    check_fewer(roots, others)
    return are_laced(roots, others)


def are_laced(roots, others):
    fewer = len(roots) - len(others)
    return all(not is_above(other, roots[index]) and not is_above(roots[index + fewer], other)
               for index, other in enumerate(others))


def rows_between(roots, others):
    """Told rows of roots, one fewer each time, that lace the roots with the others; None if these are not laced."""
    check_fewer(roots, others)
    if not are_laced(roots, others):
        return None
    found = []
    now = roots
    while len(now) > len(others) + 1:
        now = row_under(now, others)
        found.append(now)
    return tuple(found)


def row_under(roots, others):
    """The greatest row, one fewer than the roots, that is laced with them, and with the others, two or more fewer."""
    step = len(roots) - 1 - len(others)
    found = list(roots[:-1])
    for index, other in enumerate(others):
        if is_above(found[index + step], other):
            found[index + step] = other
    return tuple(found)


def arrow_of(roots, others):
    """The squares and the last number of an arrow with the others along and the roots; None if there is none."""
    check_one_fewer(roots, others)
    if not are_laced(roots, others):
        return None
    squares = tuple(opposite_of(square) for square in squares_beside(roots, others))
    last = NOUGHT
    for root in roots:
        last = plus(last, root)
    for other in others:
        last = minus(last, other)
    return (squares, last)


def check_one_fewer(roots, others):
    check_roots(roots)
    check_roots_of(others, len(roots) - 1, len(roots) - 1)


def squares_beside(roots, others):
    """For each other m the product of all ROOT - m left over that of all OTHER - m left, unlike m; 0 for a like one.

    What is left is told by `left_of`. So the first of like others has what stands
    beside all of them: for an arrow times - 1, for a change just so.
    """
    kept, unlike = left_of(roots, others)
    found = []
    for index, other in enumerate(others):
        if index > 0 and other == others[index - 1]:
            found.append(NOUGHT)
        else:
            rest = [number for number in unlike if number != other]
            found.append(over(product_beside(kept, other), product_beside(rest, other)))
    return found


def left_of(roots, others):
    """The roots and the others, with each number that comes j times among the others taken away j - 1 times."""
    kept, unlike = list(roots), []
    for other in others:
        if other in unlike:
            kept.remove(other)
        else:
            unlike.append(other)
    return kept, unlike


def product_beside(numbers, number):
    found = ONE
    for one in numbers:
        found = times(found, minus(one, number))
    return found


def check_beside(along, squares):
    check_row_up_to(along, MOST_ROWS)
    check_squares(squares, len(along))


def arrow_counts(along, squares, last, number):
    """The counts at the number of the arrow."""
    check_beside(along, squares)
    check_fraction(last)
    check_fraction(number)
    counts = counts_along_slant(along, number)
    if is_tied(along, squares, number):
        return with_more(with_more(with_more(counts, ABOVE, 1), AT, -1), BELOW, 1)
    rest = minus(minus(last, number), sum_over(along, squares, number))
    return with_more(counts, side_of(rest[0]), 1)


def counts_along_slant(along, number):
    above = sum(1 for one in along if is_above(one, number))
    below = sum(1 for one in along if is_above(number, one))
    return (above, len(along) - above - below, below)


def is_tied(along, squares, number):
    """Whether a square beside an element that is the number is above 0."""
    return any(one == number and square[0] > 0 for one, square in zip(along, squares))


def sum_over(along, squares, number):
    """The sum of all SQUARES / (ALONG - number) over the elements other than the number."""
    found = NOUGHT
    for one, square in zip(along, squares):
        if one != number:
            found = plus(found, over(square, minus(one, number)))
    return found


def unit_squares(table, number):
    """The squares of the numbers of the row of length 1 at a root that comes just once; None for another number."""
    check_table(table)
    check_fraction(number)
    whole, _ = whole_less(table, number)
    numbers = polynomial_of(whole)
    if counts_of(numbers)[AT] != 1:
        return None
    # Both polynomials are those of whole / under, times the same power of under: it goes out.
    return tuple(fraction(polynomial_without(whole, index)[0], numbers[1]) for index in range(len(table)))


def polynomial_without(whole, index):
    """The polynomial of the corner without the index."""
    return polynomial_of(corner_rows(whole, [place for place in range(len(whole)) if place != index]))
