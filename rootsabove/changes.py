"""Changed tables: one row more, each number times each other, for one factor or for all."""

from rootsabove.checks import check_fraction, check_roots, check_roots_of, check_row
from rootsabove.counts import ABOVE, AT, BELOW, side_of, with_more
from rootsabove.laced import check_beside, counts_along_slant, is_tied, squares_beside, sum_over
from rootsabove.quotients import NOUGHT, ONE, fraction, is_above, plus, shared_under, times, whole_less, whole_row
from rootsabove.tables import check_table, root_counts
from rootsabove.wholes import dot, noughts_under, solved


def changed_counts(along, squares, factor, number):
    """The counts at the number of the changed table."""
    check_beside(along, squares)
    check_fraction(factor)
    check_fraction(number)
    counts = counts_along_slant(along, number)
    if factor == NOUGHT:
        return counts
    if is_tied(along, squares, number):
        return with_more(with_more(counts, AT, -1), side_of(factor[0]), 1)
    left = plus(ONE, times(factor, sum_over(along, squares, number)))
    return gone_through(counts, factor, side_of(left[0]))


def gone_through(counts, factor, side):
    """The counts, where one root has gone, by the factor, to the number (side AT), or over it (side BELOW)."""
    if side == ABOVE:
        return counts
    if factor[0] > 0:
        start, end = BELOW, ABOVE
    else:
        start, end = ABOVE, BELOW
    if side == AT:
        end = AT
    return with_more(with_more(counts, start, -1), end, 1)


def check_as_many(roots, others):
    check_roots(roots)
    check_roots_of(others, len(roots), len(roots))


def change_of(roots, others):
    """The squares for which the others along, changed with the factor 1, have the roots; None if there are none."""
    check_as_many(roots, others)
    if not are_raised(roots, others):
        return None
    return tuple(squares_beside(roots, others))


def are_raised(roots, others):
    """Whether each root is from the other one of its index on, and the next root up to it."""
    if any(is_above(other, root) for root, other in zip(roots, others)):
        return False
    return not any(is_above(root, other) for root, other in zip(roots[1:], others))


def check_changed(table, row, number):
    check_table(table)
    check_row(row, len(table))
    check_fraction(number)


def factor_for(table, row, number):
    """The one s for which the table and s times row by row is to have the number as a root once more; None for none."""
    check_changed(table, row, number)
    whole, under = whole_less(table, number)
    goal = whole_row(row)
    found = solved(whole, goal)
    if found is None:
        return NOUGHT
    # Of the table less the number x is led * under / (share * goal_under), and the row goal / goal_under.
    led, share = found
    product = dot(led, goal)
    if product == 0:
        return None
    goal_under = shared_under((row,))
    return fraction(-share * goal_under * goal_under, product * under)


def rows_that_stay(table, row, number):
    """Free rows of whole numbers, as many as there are, that stay at the number whatever s is.

    The table takes them to the number times themselves, and they have the product 0 with the row.
    """
    check_changed(table, row, number)
    whole, _ = whole_less(table, number)
    return noughts_under(whole + [whole_row(row)], len(row))


def counts_along(table, row, number):
    """The counts at the number for all s below the one of `factor_for`, for it, and for all above it."""
    check_changed(table, row, number)
    counts = root_counts(table, number)
    factor = factor_for(table, row, number)
    if factor is None:
        return (counts, counts, counts)
    if factor == NOUGHT:
        others = with_more(counts, AT, -1)
        return (with_more(others, BELOW, 1), counts, with_more(others, ABOVE, 1))
    just, over_it = gone_through(counts, factor, AT), gone_through(counts, factor, BELOW)
    if factor[0] > 0:
        return (counts, just, over_it)
    return (over_it, just, counts)
