"""Certificates: for each kind of claim the one that is so, with a paper that the checker accepts."""

from rootsabove.changes import change_of, rows_that_stay
from rootsabove.checks import check_fraction, check_number
from rootsabove.fillings import bordered, check_bordering, filled
from rootsabove.forms import opposite_table
from rootsabove.laced import arrow_of, rows_between
from rootsabove.means import outside
from rootsabove.nearby import low_table, near_table
from rootsabove.papers import is_passing
from rootsabove.quotients import NOUGHT, fraction_row
from rootsabove.ranks import change_to, is_change
from rootsabove.spreads import is_sum_up_to, turns_to
from rootsabove.stretches import rows_within, stretch_table
from rootsabove.tables import check_table, root_counts, squares_of
from rootsabove.trials import plain_table, rows_below, rows_from, trial_example


def told(words, parts, paper):
    """The claim of the first word with the paper; where there is none, that of the other word, which wants none."""
    word, other = words
    if paper is None:
        return ((other,) + parts, ())
    return ((word,) + parts, paper)


def certify_counts(table, number):
    """The counts of the table at the number, with squares."""
    counts = root_counts(table, number)
    return (("counts", table, number, counts), squares_of(table, number))


def certify_from(table, number, least):
    """Whether at least so many roots are from the number on, with rows of such a worth."""
    check_table(table)
    check_fraction(number)
    check_number(least, len(table))
    rows = rows_from(table, number)
    if len(rows) >= least:
        return (("roots from", table, number, least), rows[:least])
    return (("fewer from", table, number, least), rows_below(table, number)[:len(table) - least + 1])


def certify_within(table, low, high, least):
    """Whether at least so many roots are from low to high, with rows of such a worth of the stretch table."""
    stretch = stretch_table(table, low, high)
    check_number(least, len(table))
    rows = rows_within(table, low, high)
    if len(rows) >= least:
        return (("within", table, low, high, least), rows[:least])
    others = rows_below(opposite_table(stretch), NOUGHT)
    return (("fewer within", table, low, high, least), others[:len(table) - least + 1])


def certify_trial(counts, trial):
    """Whether the trial is one of the counts, with an example."""
    return told(("trial", "no trial"), (counts, trial), trial_example(counts, trial))


def certify_mean(mean, spread, low, high):
    """Whether a root is surely within, or else outside roots."""
    roots = outside(mean, spread, low, high)
    return told(("perhaps outside", "surely within"), (mean, spread, low, high), roots)


def certify_laced(roots, others):
    """Whether the roots are laced with the others, with rows between."""
    return told(("laced", "not laced"), (roots, others), rows_between(roots, others))


def certify_arrow(roots, others):
    """Whether the roots are those of an arrow with the others along, with its numbers."""
    return told(("arrow", "no arrow"), (roots, others), arrow_of(roots, others))


def certify_raise(roots, others):
    """Whether the roots are those of the others along, changed with the factor 1, with the squares."""
    return told(("raised", "not raised"), (roots, others), change_of(roots, others))


def certify_spread(roots, diagonal):
    """Whether the diagonal is spread beside the roots, with turns, or else how many numbers pass the roots."""
    turns = turns_to(roots, diagonal)
    if turns is not None:
        return (("spread", roots, diagonal), turns)
    passing = [many for many in range(1, len(roots) + 1) if is_passing(roots, diagonal, many)]
    return (("not spread", roots, diagonal), passing[0])


def certify_sum(table, size, number):
    """Whether the trial sums of all so many free rows are up to the number."""
    if is_sum_up_to(table, size, number):
        return (("sum up to", table, size, number), ())
    return (("sum above", table, size, number), ())


def certify_stay(table, row, number):
    """Whether the number is a root for all s, with a row that stays."""
    rows = rows_that_stay(table, row, number)
    paper = fraction_row(rows[0], 1) if rows else None
    return told(("stays", "leaves"), (table, row, number), paper)


def certify_change(before, change, after):
    """Whether the triples go together, with two tables."""
    paper = None
    if is_change(before, change, after):
        table = plain_table(before)
        paper = (table, change_to(table, NOUGHT, change, after))
    return told(("change", "no change"), (before, change, after), paper)


def certify_near(table, number, size, above):
    """Whether a table small by the size makes ABOVE so, with such a table."""
    return told(("near", "not near"), (table, number, size, above), near_table(table, number, size, above))


def certify_kept(table, bounds, number):
    """Whether no table within has a root below the number, or else one that has, with a row."""
    form = low_table(table, bounds, number)
    paper = None
    if form is not None:
        paper = (form, rows_below(form, number)[0])
    return told(("broken", "kept"), (table, bounds, number), paper)


def certify_filling(table, border, counts):
    """Whether some corner gives the whole table the counts, with such a corner."""
    return told(("fills", "fills not"), (table, border, counts), filled(table, border, counts))


def certify_bordering(one, other, whole):
    """Whether a border gives a whole table of the counts, with a table, a border and a corner."""
    check_bordering(one, other, whole)
    table = plain_table(one)
    found = bordered(table, other, whole)
    paper = None
    if found is not None:
        paper = (table,) + found
    return told(("bordered", "not bordered"), (one, other, whole), paper)
