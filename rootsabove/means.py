"""Means: the mean and the spread of a row, and where roots are and may be by these alone."""

from rootsabove.checks import check_fraction, check_fraction_below, check_fraction_from, check_row
from rootsabove.errors import InvalidRow
from rootsabove.quotients import (
    NOUGHT, ONE, fraction, is_above, minus, over, plus, shared_under, times, whole_row, whole_rows,
)
from rootsabove.tables import check_table
from rootsabove.wholes import dot, shortened

HALF = (1, 2)


def check_tried(table, row):
    check_table(table)
    check_row(row, len(table))
    if not any(number[0] for number in row):
        raise InvalidRow(None)


def mean_of(table, row):
    """The mean of the row for the table: x . (A x) over x . x."""
    check_tried(table, row)
    length, worth, _, under = products_of(table, row)
    return fraction(worth, under * length)


def spread_of(table, row):
    """The spread of the row for the table: (A x) . (A x) over x . x, less the square of the mean."""
    check_tried(table, row)
    length, worth, square, under = products_of(table, row)
    return fraction(square * length - worth * worth, under * under * length * length)


def products_of(table, row):
    """x . x, x . (A x) and (A x) . (A x) for A, UNDER times the table, and x, a multiple of the row; and UNDER."""
    under = shared_under(table)
    tried = shortened(whole_row(row))
    led = [dot(line, tried) for line in whole_rows(table, under)]
    return dot(tried, tried), dot(tried, led), dot(led, led), under


def check_told(mean, spread):
    check_fraction(mean)
    check_fraction_from(spread, NOUGHT)


def check_told_stretch(mean, spread, low, high):
    check_told(mean, spread)
    check_fraction(low)
    check_fraction_from(high, low)


def surely_within(mean, spread, low, high):
    """Whether all tables with a row of the mean and the spread have some root from low to high."""
    check_told_stretch(mean, spread, low, high)
    return is_sure(mean, spread, low, high)


def is_sure(mean, spread, low, high):
    # The product is below 0, and so below the spread, for a mean that is not from low to high.
    return not is_above(spread, times(minus(mean, low), minus(high, mean)))


def outside(mean, spread, low, high):
    """Outside roots and the share of the lower one: (LOWER, UPPER, SHARE); None if some root is surely within."""
    check_told_stretch(mean, spread, low, high)
    if is_sure(mean, spread, low, high):
        return None
    step = step_down(mean, spread, low, high)
    # The step up is the spread over the step down, none for a spread of 0; these shares make the mean and the spread.
    share = over(spread, plus(times(step, step), spread))
    return (minus(mean, step), plus(mean, over(spread, step)), share)


def step_down(mean, spread, low, high):
    """A step above 0 for which neither the mean less it nor the mean plus the spread over it is from low to high."""
    if is_above(mean, high):
        return times(HALF, minus(mean, high))
    if is_above(low, mean):
        return plus(over(spread, minus(low, mean)), ONE)
    # Both ends are to be passed: the step is above mean - low, the spread over it above high - mean.
    least = minus(mean, low)
    if mean == high:
        return plus(least, ONE)
    return times(HALF, plus(least, over(spread, minus(high, mean))))


def greatest_bound(mean, spread, most):
    """The greatest number that root 0 may be, all others being up to most, which is below the mean (Temple)."""
    check_told(mean, spread)
    check_fraction_below(most, mean)
    return plus(mean, over(spread, minus(mean, most)))
