"""Each function of the interface with good arguments, and with what is wrong for each of them."""

from rootsabove import changes, laced, means, ranks, spreads, stretches, tables, trials
from wrongs import (
    AFTER, ALONG, AS_MANY, BEFORE, CHANGE, COUNTS, DIAGONAL, FEWER, FRACTION, HALF, HIGH, INDEX, LOW, MANY, MEAN, MOST,
    NIL, OF_THREE, OF_TWO, ONE, ONE_FEWER, PAIR, PLACES, ROOTS, ROOTS_OF_TWO, ROW, ROWS, SIZE, SPREAD, SQUARES, TABLE,
    THREE, TRIAL, TRIED, TURN, TWO, WRONG_ALONG, WRONG_COUNTS, WRONG_DIAGONAL, WRONG_PLACES, WRONG_ROOTS, WRONG_ROW,
    WRONG_ROWS, WRONG_ROW_OF_TWO, WRONG_SQUARES, WRONG_TRIAL, WRONG_TRIED, WRONG_TURNS, CROSS,
)

TOLD = (("mean", MEAN, FRACTION), ("spread", TWO, SPREAD))
STRETCH = (("low", LOW, FRACTION), ("high", THREE, HIGH))
BESIDE = (("along", ALONG, WRONG_ALONG), ("squares", SQUARES, WRONG_SQUARES))
CHANGED = (("table", PAIR, TABLE), ("row", ROW, WRONG_ROW_OF_TWO), ("number", HALF, FRACTION))
PARAMETERS = (
    (tables.root_counts, (("table", PAIR, TABLE), ("number", HALF, FRACTION))),
    (tables.squares_of, (("table", PAIR, TABLE), ("number", HALF, FRACTION))),
    (tables.polynomial, (("table", PAIR, TABLE),)),
    (tables.corner_minors, (("table", PAIR, TABLE), ("number", HALF, FRACTION))),
    (tables.rows_at, (("table", PAIR, TABLE), ("number", ONE, FRACTION))),
    (tables.root_near, (("table", PAIR, TABLE), ("index", 1, INDEX), ("many", 7, MANY))),
    (tables.likes, (("table", PAIR, TABLE),)),
    (spreads.is_spread, (("roots", ROOTS, WRONG_ROOTS), ("diagonal", DIAGONAL, WRONG_DIAGONAL))),
    (spreads.turns_to, (("roots", ROOTS, WRONG_ROOTS), ("diagonal", DIAGONAL, WRONG_DIAGONAL))),
    (spreads.turned, (("diagonal", DIAGONAL, WRONG_ROW), ("turns", (TURN, (1, 0, NIL)), WRONG_TURNS))),
    (spreads.sums_table, (("table", PAIR, TABLE), ("size", 1, SIZE))),
    (spreads.sum_near, (("table", PAIR, TABLE), ("size", 2, SIZE), ("many", 3, MANY))),
    (spreads.trial_sum, (("table", PAIR, TABLE), ("rows", ROWS, WRONG_ROWS))),
    (trials.trial_counts, (("table", PAIR, TABLE), ("number", HALF, FRACTION), ("rows", ROWS, WRONG_ROWS))),
    (trials.rows_from, (("table", PAIR, TABLE), ("number", TWO, FRACTION))),
    (trials.rows_below, (("table", PAIR, TABLE), ("number", TWO, FRACTION))),
    (trials.is_trial, (("counts", COUNTS, WRONG_COUNTS), ("trial", TRIAL, WRONG_TRIAL))),
    (trials.trial_example, (("counts", COUNTS, WRONG_COUNTS), ("trial", TRIAL, WRONG_TRIAL))),
    (stretches.stretch_table, (("table", PAIR, TABLE),) + STRETCH),
    (stretches.within, (("table", PAIR, TABLE),) + STRETCH),
    (stretches.rows_within, (("table", PAIR, TABLE),) + STRETCH),
    (means.mean_of, (("table", PAIR, TABLE), ("row", TRIED, WRONG_TRIED))),
    (means.spread_of, (("table", PAIR, TABLE), ("row", TRIED, WRONG_TRIED))),
    (means.surely_within, TOLD + STRETCH),
    (means.outside, TOLD + STRETCH),
    (means.greatest_bound, TOLD + (("most", NIL, MOST),)),
    (laced.corner_of, (("table", CROSS, TABLE), ("places", PLACES, WRONG_PLACES))),
    (laced.is_laced, (("roots", ROOTS, WRONG_ROOTS), ("others", (TWO, NIL), FEWER))),
    (laced.rows_between, (("roots", ROOTS, WRONG_ROOTS), ("others", (TWO, NIL), FEWER))),
    (laced.arrow_of, (("roots", ROOTS, WRONG_ROOTS), ("others", (TWO, NIL), ONE_FEWER))),
    (laced.arrow_counts, BESIDE + (("last", HALF, FRACTION), ("number", TWO, FRACTION))),
    (laced.unit_squares, (("table", PAIR, TABLE), ("number", ONE, FRACTION))),
    (changes.changed_counts, BESIDE + (("factor", HALF, FRACTION), ("number", TWO, FRACTION))),
    (changes.change_of, (("roots", ROOTS_OF_TWO, WRONG_ROOTS), ("others", (TWO, NIL), AS_MANY))),
    (changes.factor_for, CHANGED),
    (changes.counts_along, CHANGED),
    (ranks.is_change, (("before", BEFORE, WRONG_COUNTS), ("change", CHANGE, OF_THREE), ("after", AFTER, OF_THREE))),
    (ranks.least_change, (("before", BEFORE, WRONG_COUNTS), ("after", AFTER, OF_THREE))),
    (ranks.change_to, (("table", PAIR, TABLE), ("number", TWO, FRACTION), ("change", (1, 0, 1), OF_TWO),
                       ("after", (0, 1, 1), OF_TWO))),
)
EXAMPLES = PARAMETERS + ((tables.is_table, (("value", PAIR, []),)),)
# What the interface lists under each file, in its order.
LISTED = (
    (tables, "root_counts squares_of polynomial corner_minors rows_at root_near likes is_table"),
    (trials, "trial_counts rows_from rows_below is_trial trial_example"),
    (stretches, "stretch_table within rows_within"),
    (means, "mean_of spread_of surely_within outside greatest_bound"),
    (laced, "corner_of is_laced rows_between arrow_of arrow_counts unit_squares"),
    (changes, "changed_counts change_of factor_for counts_along"),
    (spreads, "is_spread turns_to turned sums_table sum_near trial_sum"),
    (ranks, "is_change least_change change_to"),
)
