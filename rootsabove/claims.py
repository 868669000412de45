"""Claims that want no paper: whether one is so.

Each function takes the parts of a claim, whatever they are, and raises a
RootError for what is no claim.
"""

from rootsabove.changes import change_of, rows_that_stay
from rootsabove.checks import check_above, check_counts_of
from rootsabove.fillings import are_bordered, check_bordering, fill_triples
from rootsabove.laced import arrow_of, is_laced
from rootsabove.means import surely_within
from rootsabove.nearby import above_near, low_table
from rootsabove.ranks import is_change
from rootsabove.spreads import is_sum_up_to
from rootsabove.trials import is_trial


def is_no_trial(counts, trial):
    return not is_trial(counts, trial)


def is_surely_within(mean, spread, low, high):
    return surely_within(mean, spread, low, high)


def is_not_laced(roots, others):
    return not is_laced(roots, others)


def is_no_arrow(roots, others):
    return arrow_of(roots, others) is None


def is_not_raised(roots, others):
    return change_of(roots, others) is None


def all_sums_up_to(table, size, number):
    return is_sum_up_to(table, size, number)


def some_sum_above(table, size, number):
    return not is_sum_up_to(table, size, number)


def leaves(table, row, number):
    return len(rows_that_stay(table, row, number)) == 0


def is_no_change(before, change, after):
    return not is_change(before, change, after)


def is_not_near(table, number, size, above):
    least, most = above_near(table, number, size)
    check_above(above, len(table))
    return not least <= above <= most


def is_kept(table, bounds, number):
    return low_table(table, bounds, number) is None


def fills_not(table, border, counts):
    found = fill_triples(table, border)
    check_counts_of(counts, len(table) + len(border))
    return counts not in found


def is_not_bordered(one, other, whole):
    check_bordering(one, other, whole)
    return not are_bordered(one, other, whole)


CLAIMS = {
    "no trial": is_no_trial,
    "surely within": is_surely_within,
    "not laced": is_not_laced,
    "no arrow": is_no_arrow,
    "not raised": is_not_raised,
    "sum up to": all_sums_up_to,
    "sum above": some_sum_above,
    "leaves": leaves,
    "no change": is_no_change,
    "not near": is_not_near,
    "kept": is_kept,
    "fills not": fills_not,
    "not bordered": is_not_bordered,
}
