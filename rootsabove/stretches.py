"""Stretches: how many roots are from LOW to HIGH, by the stretch table (A - LOW)(A - HIGH)."""

from rootsabove.checks import check_fraction, check_fraction_from
from rootsabove.quotients import fraction_row, whole_less
from rootsabove.tables import check_table, root_counts
from rootsabove.wholes import multiplied, opposite, rows_of_worth_from_nought


def check_stretch(table, low, high):
    check_table(table)
    check_fraction(low)
    check_fraction_from(high, low)


def whole_stretch(table, low, high):
    """The stretch table times a number above 0 that makes it whole; and this one."""
    lower, under_lower = whole_less(table, low)
    upper, under_upper = whole_less(table, high)
    return multiplied(lower, upper), under_lower * under_upper


def stretch_table(table, low, high):
    """The table (A - low)(A - high)."""
    check_stretch(table, low, high)
    whole, under = whole_stretch(table, low, high)
    return tuple(fraction_row(row, under) for row in whole)


def within(table, low, high):
    """How many roots are from low to high."""
    check_stretch(table, low, high)
    return len(table) - root_counts(table, high)[0] - root_counts(table, low)[2]


def rows_within(table, low, high):
    """Free rows, as many as roots are from low to high, of a worth of the stretch table up to 0."""
    check_stretch(table, low, high)
    whole, _ = whole_stretch(table, low, high)
    return tuple(fraction_row(row, 1) for row in rows_of_worth_from_nought(opposite(whole)))
