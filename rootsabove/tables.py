"""Tables and their roots: counts, squares, the polynomial, corner minors, rows at a root, a root near."""

from rootsabove.checks import MOST_ROWS, check_fraction, check_index, check_many, is_row
from rootsabove.errors import InvalidTable
from rootsabove.quotients import fraction, fraction_row, shared_under, whole_less, whole_rows
from rootsabove.wholes import noughts_under, rows_beside, squares_taken
from rootsabove.zeros import counts_of, lots_of, moved, polynomial_of, steps_under, stretched, unlike_roots


def is_table(value):
    """Whether the value is a table, whatever it is."""
    if type(value) is not tuple or not 1 <= len(value) <= MOST_ROWS:
        return False
    size = len(value)
    if not all(is_row(row, size) for row in value):
        return False
    return all(value[i][j] == value[j][i] for i in range(size) for j in range(i))


def check_table(table):
    if not is_table(table):
        raise InvalidTable(table)


def root_counts(table, number):
    """How many roots are above, at and below the number."""
    check_table(table)
    check_fraction(number)
    whole, _ = whole_less(table, number)
    return counts_of(polynomial_of(whole))


def squares_of(table, number):
    """Squares of the table less the number along: pairs (FRACTION, ROW)."""
    check_table(table)
    check_fraction(number)
    whole, under = whole_less(table, number)
    taken = squares_taken(whole)
    squares = [(fraction(share[0], share[1] * under), fraction_row(row, 1)) for share, row in taken]
    others = rows_beside([row for _, row in taken], len(table))
    return tuple(squares + [((0, 1), fraction_row(row, 1)) for row in others])


def polynomial(table):
    """The determinant of x - A: its fractions, the lowest power first."""
    check_table(table)
    under = shared_under(table)
    found = []
    factor = 1
    for number in reversed(polynomial_of(whole_rows(table, under))):
        found.append(fraction(number, factor))
        factor = factor * under
    return tuple(found[::-1])


def corner_minors(table, number):
    """The determinants of the first rows and places, one and more, of the table less the number along."""
    check_table(table)
    check_fraction(number)
    whole, under = whole_less(table, number)
    found = []
    factor = 1
    for size in range(1, len(table) + 1):
        # The polynomial at 0 is the determinant of the opposite table, so each row brings a sign.
        factor = factor * -under
        corner = [row[:size] for row in whole[:size]]
        found.append(fraction(polynomial_of(corner)[0], factor))
    return tuple(found)


def rows_at(table, number):
    """Free rows, as many as roots are at the number, that the table takes to the number times themselves."""
    check_table(table)
    check_fraction(number)
    whole, _ = whole_less(table, number)
    return tuple(fraction_row(row, 1) for row in noughts_under(whole, len(table)))


def root_near(table, index, many):
    """Root `index` told near: the greatest k with k / many not above it, and whether k / many is it."""
    check_table(table)
    check_index(index, len(table))
    check_many(many)
    return near(table, index, many)


def near(table, index, many):
    """As root_near, of however many rows the table is."""
    under = shared_under(table)
    whole = whole_rows(table, under)
    # A long search with long numbers is slow; the table times many, rounded, leads near by short ones.
    rounded = [[number * many // under for number in row] for row in whole]
    guess = steps_under(polynomial_of(rounded), index, 1, 0)
    numbers = stretched(polynomial_of(whole), many)
    k = steps_under(numbers, index, under, guess)
    above = counts_of(moved(numbers, k * under))[0]
    return (k, above <= index)


def likes(table):
    """How often each unlike root comes, from the greatest root down."""
    check_table(table)
    whole = whole_rows(table, shared_under(table))
    unlike = unlike_roots(whole)
    if unlike == len(table):
        return (1,) * unlike
    return tuple(lots_of(polynomial_of(whole), unlike))
