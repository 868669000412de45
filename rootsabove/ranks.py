"""Changes of counts: triples that go together, the least change, and a table that makes one."""

from rootsabove.checks import MOST_ROWS, check_counts, check_counts_of, check_fraction
from rootsabove.counts import side_of, with_more
from rootsabove.forms import table_of_squares
from rootsabove.quotients import times
from rootsabove.tables import check_table, squares_of

# What may be added to 1, 0 and - 1: what keeps its sign, nothing, what lessens it, takes it off, turns it.
STEPS = {
    1: ((1, 1), (0, 1), (-1, 2), (-1, 1), (-2, 1)),
    0: ((1, 1), (0, 1), (-1, 1)),
    -1: ((-1, 1), (0, 1), (1, 2), (1, 1), (2, 1)),
}


def check_together(before, change, after):
    """Checks three triples of one sum."""
    check_counts(before, MOST_ROWS)
    check_counts_of(change, sum(before))
    check_counts_of(after, sum(before))


def is_change(before, change, after):
    """Whether the triples go together."""
    check_together(before, change, after)
    return go_together(before, change, after)


def go_together(before, change, after):
    above, _, below = before
    raised, _, lowered = change
    above_then, _, below_then = after
    return (above_then <= above + raised and below_then <= below + lowered
            and above <= above_then + lowered and below <= below_then + raised
            and raised <= above_then + below and lowered <= below_then + above)


def least_change(before, after):
    """How many roots are above and below 0 in the least change."""
    check_counts(before, MOST_ROWS)
    check_counts_of(after, sum(before))
    raised = max(after[0] - before[0], before[2] - after[2], 0)
    lowered = max(before[0] - after[0], after[2] - before[2], 0)
    return (raised, lowered)


def change_to(table, number, change, after):
    """A table of the counts `change`, which makes the table's counts at the number `after`; None if there is none."""
    check_table(table)
    check_fraction(number)
    check_counts_of(change, len(table))
    check_counts_of(after, len(table))
    squares = squares_of(table, number)
    steps = steps_to([sign_of(share) for share, _ in squares], change, after)
    if steps is None:
        return None
    return table_of_squares([(times(step, size_of(share)), row) for step, (share, row) in zip(steps, squares)])


def sign_of(share):
    return 1 - side_of(share[0])


def size_of(share):
    """How far the share is from 0; 1 for 0 itself, beside which any step does."""
    if share[0] == 0:
        return (1, 1)
    return (abs(share[0]), share[1])


def steps_to(signs, change, after):
    """A step for each sign, the steps of the counts `change`, with the signs together of `after`; None for none."""
    if len(signs) == 0:
        return []
    for step in STEPS[signs[0]]:
        change_left = with_more(change, side_of(step[0]), -1)
        after_left = with_more(after, side_of(signs[0] * step[1] + step[0]), -1)
        if min(change_left) >= 0 and min(after_left) >= 0:
            rest = steps_to(signs[1:], change_left, after_left)
            if rest is not None:
                return [step] + rest
    return None
