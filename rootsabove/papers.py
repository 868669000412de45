"""Papers: whether one is right for its claim.

Each function takes the parts of a claim and a paper, whatever they are, and may
raise a RootError, too, for what is not right.
"""

from rootsabove.changes import check_as_many, check_changed
from rootsabove.checks import (
    check_above, check_border, check_counts_of, check_fraction, check_number, check_roots, check_row, check_rows,
    check_squares, is_fraction, is_row, is_tuple_of, is_whole_within,
)
from rootsabove.counts import ABOVE, BELOW
from rootsabove.fillings import check_bordering, check_filling
from rootsabove.forms import joined, less_along, sum_of_tables, table_of_squares
from rootsabove.laced import check_fewer, check_one_fewer, counts_along_slant, is_laced
from rootsabove.means import check_told_stretch
from rootsabove.nearby import check_bounded, check_near_by, is_within
from rootsabove.quotients import (
    NOUGHT, ONE, is_above, minus, opposite_of, plus, shared_under, times, whole_less, whole_row, whole_rows,
)
from rootsabove.ranks import check_together
from rootsabove.spreads import turned
from rootsabove.stretches import stretch_table
from rootsabove.tables import check_table, root_counts
from rootsabove.trials import check_trial, trial_counts
from rootsabove.wholes import dot
from rootsabove.zeros import with_zeros


def are_squares_of_counts(table, number, counts, paper):
    check_table(table)
    check_fraction(number)
    check_counts_of(counts, len(table))
    if not is_tuple_of(paper, len(table)) or not all(is_square(square) for square in paper):
        return False
    check_rows(tuple(row for _, row in paper), len(table))
    if counts_along_slant([share for share, _ in paper], NOUGHT) != counts:
        return False
    return table_of_squares(paper) == less_along(table, number)


def is_square(value):
    """Whether the value is a pair of a fraction and something else."""
    return is_tuple_of(value, 2) and is_fraction(value[0])


def are_rows_from(table, number, least, paper):
    check_least(table, least)
    return is_tuple_of(paper, least) and trial_counts(table, number, paper)[BELOW] == 0


def are_rows_below(table, number, least, paper):
    check_least(table, least)
    many = len(table) - least + 1
    return is_tuple_of(paper, many) and trial_counts(table, number, paper)[BELOW] == many


def check_least(table, least):
    check_table(table)
    check_number(least, len(table))


def are_rows_within(table, low, high, least, paper):
    stretch = stretch_table(table, low, high)
    check_number(least, len(table))
    return is_tuple_of(paper, least) and trial_counts(stretch, NOUGHT, paper)[ABOVE] == 0


def are_rows_outside(table, low, high, least, paper):
    stretch = stretch_table(table, low, high)
    check_number(least, len(table))
    many = len(table) - least + 1
    return is_tuple_of(paper, many) and trial_counts(stretch, NOUGHT, paper)[ABOVE] == many


def is_trial_paper(counts, trial, paper):
    check_trial(counts, trial)
    if not is_tuple_of(paper, 2):
        return False
    table, rows = paper
    return root_counts(table, NOUGHT) == counts and trial_counts(table, NOUGHT, rows) == trial


def are_outside_roots(mean, spread, low, high, paper):
    check_told_stretch(mean, spread, low, high)
    if not is_row(paper, 3):
        return False
    lower, upper, share = paper
    rest = minus(ONE, share)
    if is_above(lower, upper) or share[0] < 0 or rest[0] < 0:
        return False
    if is_from_to(lower, low, high) or is_from_to(upper, low, high):
        return False
    gap = minus(upper, lower)
    shares = times(share, rest)
    return plus(times(share, lower), times(rest, upper)) == mean and times(times(gap, gap), shares) == spread


def is_from_to(number, low, high):
    return not is_above(low, number) and not is_above(number, high)


def are_rows_that_lace(roots, others, paper):
    check_fewer(roots, others)
    if not is_tuple_of(paper, len(roots) - len(others) - 1):
        return False
    # So many rows, each to be fewer than the one before it, can only be one fewer each time.
    chain = (roots, *paper, others)
    return all(is_laced(one, other) for one, other in zip(chain, chain[1:]))


def is_arrow(roots, others, paper):
    """Whether the arrow has the polynomial of the roots, with x / under in the place of x."""
    check_one_fewer(roots, others)
    if not is_tuple_of(paper, 2):
        return False
    squares, last = paper
    check_squares(squares, len(others))
    check_fraction(last)
    told = (roots, others, squares, (last,))
    under = shared_under(told)
    zeros, along, worths, lasts = whole_rows(told, under)
    return with_zeros(zeros) == less_squares(with_zeros(along + lasts), along, [under * worth for worth in worths])


def is_raise(roots, others, paper):
    """Whether the changed table has the polynomial of the roots, with x / under in the place of x."""
    check_as_many(roots, others)
    check_squares(paper, len(others))
    told = (roots, others, paper)
    zeros, along, worths = whole_rows(told, shared_under(told))
    return with_zeros(zeros) == less_squares(with_zeros(along), along, worths)


def less_squares(numbers, along, squares):
    """The polynomial less each square times that with the other numbers along as its zeros."""
    found = list(numbers)
    for place, square in enumerate(squares):
        for power, number in enumerate(with_zeros(along[:place] + along[place + 1:])):
            found[power] -= square * number
    return found


def check_diagonal(roots, diagonal):
    check_roots(roots)
    check_row(diagonal, len(roots))


def are_turns_to(roots, diagonal, paper):
    check_diagonal(roots, diagonal)
    return turned(roots, paper) == diagonal


def is_passing(roots, diagonal, paper):
    """Whether so many greatest numbers of the diagonal have a sum that they may not have."""
    check_diagonal(roots, diagonal)
    if not is_whole_within(paper, 1, len(roots)):
        return False
    greatest, others = whole_rows((roots, diagonal), shared_under((roots, diagonal)))
    passed = sum(sorted(others, reverse=True)[:paper]) - sum(greatest[:paper])
    return passed > 0 or passed < 0 and paper == len(roots)


def is_row_that_stays(table, row, number, paper):
    check_changed(table, row, number)
    check_row(paper, len(table))
    whole, _ = whole_less(table, number)
    tried = whole_row(paper)
    return any(tried) and not any(dot(line, tried) for line in whole + [whole_row(row)])


def is_change_paper(before, change, after, paper):
    check_together(before, change, after)
    if not is_tuple_of(paper, 2):
        return False
    table, more = paper
    if root_counts(table, NOUGHT) != before or root_counts(more, NOUGHT) != change:
        return False
    return root_counts(sum_of_tables(table, more), NOUGHT) == after


def is_small_table(table, number, size, above, paper):
    check_near_by(table, number, size)
    check_above(above, len(table))
    check_table(paper)
    if len(paper) != len(table):
        return False
    if root_counts(paper, size)[ABOVE] > 0 or root_counts(paper, opposite_of(size))[BELOW] > 0:
        return False
    return root_counts(sum_of_tables(table, paper), number)[ABOVE] == above


def is_table_that_breaks(table, bounds, number, paper):
    check_bounded(table, bounds)
    if not is_tuple_of(paper, 2):
        return False
    form, row = paper
    check_table(form)
    if len(form) != len(table) or not is_within(form, table, bounds):
        return False
    return trial_counts(form, number, (row,))[BELOW] == 1


def is_corner(table, border, counts, paper):
    check_filling(table, border)
    check_counts_of(counts, len(table) + len(border))
    check_table(paper)
    return len(paper) == len(border) and root_counts(joined(table, border, paper), NOUGHT) == counts


def is_bordered_paper(one, other, whole, paper):
    check_bordering(one, other, whole)
    if not is_tuple_of(paper, 3):
        return False
    table, border, corner = paper
    if root_counts(table, NOUGHT) != one or root_counts(corner, NOUGHT) != other:
        return False
    check_border(border, len(table))
    return len(border) == len(corner) and root_counts(joined(table, border, corner), NOUGHT) == whole


PAPERS = {
    "counts": are_squares_of_counts,
    "roots from": are_rows_from,
    "fewer from": are_rows_below,
    "within": are_rows_within,
    "fewer within": are_rows_outside,
    "trial": is_trial_paper,
    "perhaps outside": are_outside_roots,
    "laced": are_rows_that_lace,
    "arrow": is_arrow,
    "raised": is_raise,
    "spread": are_turns_to,
    "not spread": is_passing,
    "stays": is_row_that_stays,
    "change": is_change_paper,
    "near": is_small_table,
    "broken": is_table_that_breaks,
    "fills": is_corner,
    "bordered": is_bordered_paper,
}
