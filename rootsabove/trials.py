"""Trials: what counts rows have on a table, rows of a worth from 0 on and below 0, trials of counts."""

from rootsabove.checks import MOST_ROWS, check_counts, check_fraction, check_rows
from rootsabove.counts import signs_of
from rootsabove.forms import along_table
from rootsabove.quotients import fraction_row, whole_less, whole_row
from rootsabove.tables import check_table
from rootsabove.wholes import (
    dot, multiplied, rows_of_worth_below_nought, rows_of_worth_from_nought, shortened, unit_row,
)
from rootsabove.zeros import counts_of, polynomial_of


def trial_counts(table, number, rows):
    """The counts of W (A - number) W', W being the free rows."""
    check_table(table)
    check_fraction(number)
    check_rows(rows, len(table))
    whole, _ = whole_less(table, number)
    # Each row is taken times a number above 0, which changes no counts (Sylvester).
    tried = [shortened(whole_row(row)) for row in rows]
    products = [[dot(line, row) for row in tried] for line in multiplied(tried, whole)]
    return counts_of(polynomial_of(products))


def rows_from(table, number):
    """Free rows, as many as roots are from the number on, of a worth of A - number from 0 on."""
    check_table(table)
    check_fraction(number)
    whole, _ = whole_less(table, number)
    return tuple(fraction_row(row, 1) for row in rows_of_worth_from_nought(whole))


def rows_below(table, number):
    """Free rows, as many as roots are below the number, of a worth of A - number below 0."""
    check_table(table)
    check_fraction(number)
    whole, _ = whole_less(table, number)
    return tuple(fraction_row(row, 1) for row in rows_of_worth_below_nought(whole))


def check_trial(counts, trial):
    check_counts(counts, MOST_ROWS)
    check_counts(trial, sum(counts))


def is_trial(counts, trial):
    """Whether the trial is one of the counts."""
    check_trial(counts, trial)
    return comes(counts, trial)


def comes(counts, trial):
    """Whether rows on a table of the counts may have the trial as their counts (Witt)."""
    above, at_nought, below = counts
    left = min(above - trial[0], below - trial[2])
    return left >= 0 and trial[1] <= at_nought + left


def trial_example(counts, trial):
    """A table with the counts, and free rows of it with the trial as their counts; None if there are none."""
    check_trial(counts, trial)
    if not comes(counts, trial):
        return None
    rows = [unit_row(sum(counts), places) for places in trial_places(counts, trial)]
    return (plain_table(counts), tuple(fraction_row(row, 1) for row in rows))


def plain_table(counts):
    """The table with 1, 0 and -1 along, each as often as the counts tell, and 0 beside."""
    return along_table([(sign, 1) for sign in signs_of(counts)])


def trial_places(counts, trial):
    """For each row of the trial the places that have 1, on the plain table of the counts.

    The rows have no place in common, so each two of them have the product 0 on the table;
    a row with a place of 1 and one of -1 has the worth 0.
    """
    above, at_nought, below = counts
    lone = min(trial[1], at_nought)
    first_below = above + at_nought
    found = [(place,) for place in range(trial[0])]
    found += [(above + place,) for place in range(lone)]
    found += [(first_below + place,) for place in range(trial[2])]
    found += [(trial[0] + step, first_below + trial[2] + step) for step in range(trial[1] - lone)]
    return found
