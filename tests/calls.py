"""Each function of the interface with good arguments, and with what is wrong for each of them."""

from rootsabove import (
    certificates, changes, checker, fillings, laced, means, nearby, ranks, spreads, stretches, tables, trials,
)
from wrongs import (
    AFTER, ALONG, AS_MANY, BEFORE, BORDER, CHANGE, COUNTS, CROSS, DIAGONAL, FEWER, FRACTION, HALF, HIGH, INDEX, LEAST,
    LOOSE, LOW, MANY, MEAN, MOST, NIL, OF_FOUR, OF_THREE, OF_TWO, ONE, ONE_FEWER, PAIR, PLACES, ROOTS, ROOTS_OF_TWO,
    ROW, ROWS, SIZE, SPREAD, SQUARES, TABLE, THREE, TRIAL, TRIED, TURN, TWO, UP_TO_FOUR, UP_TO_THREE, WRONG_ABOVE,
    WRONG_ALONG, WRONG_BORDER, WRONG_BOUNDS, WRONG_COUNTS, WRONG_DIAGONAL, WRONG_PLACES, WRONG_ROOTS, WRONG_ROW,
    WRONG_ROWS, WRONG_ROW_OF_TWO, WRONG_SIZE, WRONG_SQUARES, WRONG_TRIAL, WRONG_TRIED, WRONG_TURNS,
)

TOLD = (("mean", MEAN, FRACTION), ("spread", TWO, SPREAD))
STRETCH = (("low", LOW, FRACTION), ("high", THREE, HIGH))
BESIDE = (("along", ALONG, WRONG_ALONG), ("squares", SQUARES, WRONG_SQUARES))
CHANGED = (("table", PAIR, TABLE), ("row", ROW, WRONG_ROW_OF_TWO), ("number", HALF, FRACTION))
TOGETHER = (("before", BEFORE, WRONG_COUNTS), ("change", CHANGE, OF_THREE), ("after", AFTER, OF_THREE))
AT = (("table", PAIR, TABLE), ("number", TWO, FRACTION))
NEAR_BY = AT + (("size", HALF, WRONG_SIZE),)
ABOVE = ("above", 2, WRONG_ABOVE)
BOUNDED = (("table", PAIR, TABLE), ("bounds", LOOSE, WRONG_BOUNDS))
FILLING = (("table", PAIR, TABLE), ("border", BORDER, WRONG_BORDER))
LEAST_OF_TWO = ("least", 1, LEAST)
PARAMETERS = (
    (tables.root_counts, (("table", PAIR, TABLE), ("number", HALF, FRACTION))),
    (tables.squares_of, (("table", PAIR, TABLE), ("number", HALF, FRACTION))),
    (tables.polynomial, (("table", PAIR, TABLE),)),
    (tables.corner_minors, (("table", PAIR, TABLE), ("number", HALF, FRACTION))),
    (tables.rows_at, (("table", PAIR, TABLE), ("number", ONE, FRACTION))),
    (tables.root_near, (("table", PAIR, TABLE), ("index", 1, INDEX), ("many", 7, MANY))),
    (tables.likes, (("table", PAIR, TABLE),)),
    (spreads.is_spread, (("roots", ROOTS, WRONG_ROOTS), ("diagonal", DIAGONAL, WRONG_DIAGONAL))),
    (spreads.turns_to, (("roots", ROOTS, WRONG_ROOTS), ("diagonal", DIAGONAL, WRONG_DIAGONAL))),
    (spreads.turned, (("diagonal", DIAGONAL, WRONG_ROW), ("turns", (TURN, (1, 0, NIL)), WRONG_TURNS))),
    (spreads.sums_table, (("table", PAIR, TABLE), ("size", 1, SIZE))),
    (spreads.sum_near, (("table", PAIR, TABLE), ("size", 2, SIZE), ("many", 3, MANY))),
    (spreads.trial_sum, (("table", PAIR, TABLE), ("rows", ROWS, WRONG_ROWS))),
    (trials.trial_counts, (("table", PAIR, TABLE), ("number", HALF, FRACTION), ("rows", ROWS, WRONG_ROWS))),
    (trials.rows_from, (("table", PAIR, TABLE), ("number", TWO, FRACTION))),
    (trials.rows_below, (("table", PAIR, TABLE), ("number", TWO, FRACTION))),
    (trials.is_trial, (("counts", COUNTS, WRONG_COUNTS), ("trial", TRIAL, WRONG_TRIAL))),
    (trials.trial_example, (("counts", COUNTS, WRONG_COUNTS), ("trial", TRIAL, WRONG_TRIAL))),
    (stretches.stretch_table, (("table", PAIR, TABLE),) + STRETCH),
    (stretches.within, (("table", PAIR, TABLE),) + STRETCH),
    (stretches.rows_within, (("table", PAIR, TABLE),) + STRETCH),
    (means.mean_of, (("table", PAIR, TABLE), ("row", TRIED, WRONG_TRIED))),
    (means.spread_of, (("table", PAIR, TABLE), ("row", TRIED, WRONG_TRIED))),
    (means.surely_within, TOLD + STRETCH),
    (means.outside, TOLD + STRETCH),
    (means.greatest_bound, TOLD + (("most", NIL, MOST),)),
    (laced.corner_of, (("table", CROSS, TABLE), ("places", PLACES, WRONG_PLACES))),
    (laced.is_laced, (("roots", ROOTS, WRONG_ROOTS), ("others", (TWO, NIL), FEWER))),
    (laced.rows_between, (("roots", ROOTS, WRONG_ROOTS), ("others", (TWO, NIL), FEWER))),
    (laced.arrow_of, (("roots", ROOTS, WRONG_ROOTS), ("others", (TWO, NIL), ONE_FEWER))),
    (laced.arrow_counts, BESIDE + (("last", HALF, FRACTION), ("number", TWO, FRACTION))),
    (laced.unit_squares, (("table", PAIR, TABLE), ("number", ONE, FRACTION))),
    (changes.changed_counts, BESIDE + (("factor", HALF, FRACTION), ("number", TWO, FRACTION))),
    (changes.change_of, (("roots", ROOTS_OF_TWO, WRONG_ROOTS), ("others", (TWO, NIL), AS_MANY))),
    (changes.factor_for, CHANGED),
    (changes.counts_along, CHANGED),
    (ranks.is_change, TOGETHER),
    (ranks.least_change, (("before", BEFORE, WRONG_COUNTS), ("after", AFTER, OF_THREE))),
    (ranks.change_to, (("table", PAIR, TABLE), ("number", TWO, FRACTION), ("change", (1, 0, 1), OF_TWO),
                       ("after", (0, 1, 1), OF_TWO))),
    (nearby.above_near, NEAR_BY),
    (nearby.near_table, NEAR_BY + (ABOVE,)),
    (nearby.distance_near, AT + (ABOVE, ("many", 7, MANY))),
    (nearby.last_near, BOUNDED + (("many", 7, MANY),)),
    (nearby.first_near, BOUNDED + (("many", 7, MANY),)),
    (nearby.low_table, BOUNDED + (("number", HALF, FRACTION),)),
    (nearby.high_table, BOUNDED + (("number", HALF, FRACTION),)),
    (fillings.fill_triples, FILLING),
    (fillings.filled, FILLING + (("counts", (2, 1, 1), OF_FOUR),)),
    (fillings.is_bordered, (("one", (1, 0, 1), UP_TO_FOUR), ("other", (0, 1, 1), UP_TO_FOUR),
                            ("whole", (2, 0, 2), OF_FOUR))),
    (fillings.bordered, (("table", PAIR, TABLE), ("corner", (0, 1, 1), UP_TO_THREE), ("whole", (2, 0, 2), OF_FOUR))),
    (certificates.certify_counts, AT),
    (certificates.certify_from, AT + (LEAST_OF_TWO,)),
    (certificates.certify_within, (("table", PAIR, TABLE),) + STRETCH + (LEAST_OF_TWO,)),
    (certificates.certify_trial, (("counts", COUNTS, WRONG_COUNTS), ("trial", TRIAL, WRONG_TRIAL))),
    (certificates.certify_mean, TOLD + STRETCH),
    (certificates.certify_laced, (("roots", ROOTS, WRONG_ROOTS), ("others", (TWO, NIL), FEWER))),
    (certificates.certify_arrow, (("roots", ROOTS, WRONG_ROOTS), ("others", (TWO, NIL), ONE_FEWER))),
    (certificates.certify_raise, (("roots", ROOTS_OF_TWO, WRONG_ROOTS), ("others", (TWO, NIL), AS_MANY))),
    (certificates.certify_spread, (("roots", ROOTS, WRONG_ROOTS), ("diagonal", DIAGONAL, WRONG_DIAGONAL))),
    (certificates.certify_sum, (("table", PAIR, TABLE), ("size", 1, SIZE), ("number", TWO, FRACTION))),
    (certificates.certify_stay, CHANGED),
    (certificates.certify_change, TOGETHER),
    (certificates.certify_near, NEAR_BY + (ABOVE,)),
    (certificates.certify_kept, BOUNDED + (("number", TWO, FRACTION),)),
    (certificates.certify_filling, FILLING + (("counts", (2, 1, 1), OF_FOUR),)),
    (certificates.certify_bordering, (("one", (1, 0, 1), UP_TO_FOUR), ("other", (0, 1, 1), UP_TO_THREE),
                                      ("whole", (2, 0, 2), OF_FOUR))),
)
EXAMPLES = PARAMETERS + (
    (tables.is_table, (("value", PAIR, []),)),
    (checker.accepts, (("claim", ("not spread", ROOTS, (TWO, TWO, NIL)), []), ("paper", 1, []))),
)
# What the interface lists under each file, in its order.
LISTED = (
    (tables, "root_counts squares_of polynomial corner_minors rows_at root_near likes is_table"),
    (trials, "trial_counts rows_from rows_below is_trial trial_example"),
    (stretches, "stretch_table within rows_within"),
    (means, "mean_of spread_of surely_within outside greatest_bound"),
    (laced, "corner_of is_laced rows_between arrow_of arrow_counts unit_squares"),
    (changes, "changed_counts change_of factor_for counts_along"),
    (spreads, "is_spread turns_to turned sums_table sum_near trial_sum"),
    (ranks, "is_change least_change change_to"),
    (nearby, "above_near near_table distance_near last_near first_near low_table high_table"),
    (fillings, "fill_triples filled is_bordered bordered"),
    (checker, "accepts"),
    (certificates, "certify_counts certify_from certify_within certify_trial certify_mean certify_laced certify_arrow"
                   " certify_raise certify_spread certify_sum certify_stay certify_change certify_near certify_kept"
                   " certify_filling certify_bordering"),
)
