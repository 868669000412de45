"""The examples of the interface, as they stand there, and those of README.md."""

import doctest
import unittest
from pathlib import Path

TABLES = r"""
>>> from rootsabove.tables import corner_minors, is_table, likes, polynomial, root_counts, root_near, rows_at, squares_of
>>> nil, half, one, two, three, less = (0, 1), (1, 2), (1, 1), (2, 1), (3, 1), (-1, 1)
>>> pair, swap, plain, golden = ((two, one), (one, two)), ((nil, one), (one, nil)), ((two, nil), (nil, two)), ((nil, one), (one, one))
>>> [is_table(pair), is_table(((one, two), (nil, one))), root_counts(pair, one), root_counts(pair, two), root_counts(swap, nil), polynomial(pair), corner_minors(pair, nil), corner_minors(pair, two)]
[True, False, (1, 1, 0), (1, 0, 1), (1, 0, 1), ((3, 1), (-4, 1), (1, 1)), ((2, 1), (3, 1)), ((0, 1), (-1, 1))]
>>> [len(rows_at(pair, one)), rows_at(pair, two), root_near(pair, 0, 7), root_near(golden, 0, 10), root_near(golden, 1, 10), likes(plain), likes(pair), len(squares_of(swap, nil))]
[1, (), (21, True), (16, False), (-7, False), (2,), (1, 1), 2]
"""

TRIALS = r"""
>>> from rootsabove.trials import is_trial, rows_below, rows_from, trial_counts, trial_example
>>> [trial_counts(swap, nil, ((one, nil),)), trial_counts(pair, two, ((one, one), (one, less))), len(rows_from(pair, two)), len(rows_from(pair, one)), len(rows_below(pair, (5, 2))), rows_below(pair, one)]
[(0, 1, 0), (1, 0, 1), 1, 2, 1, ()]
>>> [is_trial((1, 0, 1), (0, 1, 0)), is_trial((1, 0, 1), (0, 2, 0)), is_trial((2, 0, 0), (0, 1, 0)), trial_example((2, 0, 0), (0, 1, 0))]
[True, False, False, None]
>>> form, tried = trial_example((1, 0, 1), (0, 1, 0))
>>> [root_counts(form, nil), trial_counts(form, nil, tried)]
[(1, 0, 1), (0, 1, 0)]
"""

STRETCHES = r"""
>>> from rootsabove.stretches import rows_within, stretch_table, within
>>> [stretch_table(pair, one, two), within(pair, one, two), within(pair, one, three), within(swap, nil, half), len(rows_within(golden, one, two))]
[(((1, 1), (1, 1)), ((1, 1), (1, 1))), 1, 2, 0, 1]
"""

MEANS = r"""
>>> from rootsabove.means import greatest_bound, mean_of, outside, spread_of, surely_within
>>> [mean_of(pair, (one, nil)), spread_of(pair, (one, nil)), surely_within(two, one, one, three), surely_within(two, one, one, (5, 2)), outside(two, one, one, three), greatest_bound(two, one, one)]
[(2, 1), (1, 1), True, False, None, (3, 1)]
>>> lower, upper, share = outside(two, one, one, (5, 2))
>>> [lower[0] < lower[1], 2 * upper[0] > 5 * upper[1], outside(two, nil, three, three) is None]
[True, True, False]
"""

LACED = r"""
>>> from rootsabove.laced import arrow_counts, arrow_of, corner_of, is_laced, rows_between, unit_squares
>>> nil, one, two, three, four = (0, 1), (1, 1), (2, 1), (3, 1), (4, 1)
>>> both = ((two, one), (one, two))
>>> [corner_of(both, (1,)), is_laced((three, one), (two,)), is_laced((three, one), (four,)), is_laced((four, two, nil), (one,))]
[(((2, 1),),), True, False, True]
>>> [arrow_of((three, one), (two,)), arrow_of((three, two, one), (two, two)), arrow_of((three, two, one), (two, one)), arrow_of((three, one), (four,))]
[(((1, 1),), (2, 1)), (((1, 1), (0, 1)), (2, 1)), (((0, 1), (0, 1)), (3, 1)), None]
>>> [arrow_counts((two, two), (one, nil), two, two), arrow_counts((two,), (one,), two, three), rows_between((three, one), (two,)), rows_between((three, one), (four,))]
[(1, 1, 1), (0, 1, 1), (), None]
>>> [unit_squares(both, three), unit_squares(both, two), unit_squares(((two, nil), (nil, two)), two)]
[((1, 2), (1, 2)), None, None]
"""

CHANGES = r"""
>>> from rootsabove.changes import change_of, changed_counts, counts_along, factor_for
>>> [changed_counts((nil, nil), (one, one), one, one), changed_counts((nil, nil), (one, one), one, nil), changed_counts((nil, two), (one, nil), one, one)]
[(1, 0, 1), (1, 1, 0), (1, 1, 0)]
>>> [change_of((two, nil), (nil, nil)), change_of((three, one), (two, nil)), change_of((two, one), (three, nil))]
[((2, 1), (0, 1)), ((1, 2), (3, 2)), None]
>>> [factor_for(both, (one, nil), nil), factor_for(both, (one, one), one), factor_for(both, (one, nil), one), factor_for(both, (one, (-1, 1)), three), factor_for(both, (nil, nil), three)]
[(-3, 2), (-1, 1), (0, 1), (1, 1), None]
>>> [counts_along(both, (one, nil), nil), counts_along(both, (one, one), one)]
[((1, 0, 1), (1, 1, 0), (2, 0, 0)), ((0, 1, 1), (0, 2, 0), (1, 1, 0))]
"""

SPREADS = r"""
>>> from rootsabove.spreads import is_spread, sum_near, sums_table, trial_sum, turned, turns_to
>>> [is_spread((three, one), (two, two)), is_spread((three, one), (nil, four)), is_spread((three, one), (one, one)), turns_to((three, one), (nil, four)), turns_to((three,), (three,))]
[True, False, False, None, ()]
>>> [turned((three, one), ((0, 1, (1, 2)),)), turned((three, one, nil), ((0, 2, (2, 3)), (1, 0, nil))), turned((three, one), turns_to((three, one), (one, three)))]
[((2, 1), (2, 1)), ((1, 1), (2, 1), (1, 1)), ((1, 1), (3, 1))]
>>> cross = ((nil, one, nil), (one, nil, nil), (nil, nil, (5, 1)))
>>> [sums_table(cross, 2), sums_table(both, 2), sum_near(cross, 2, 1), sum_near(both, 1, 10), trial_sum(both, ((one, one),)), trial_sum(both, ((one, nil), (one, one)))]
[(((0, 1), (0, 1), (0, 1)), ((0, 1), (5, 1), (1, 1)), ((0, 1), (1, 1), (5, 1))), (((4, 1),),), (6, True), (30, True), (3, 1), (4, 1)]
"""

RANKS = r"""
>>> from rootsabove.ranks import change_to, is_change, least_change
>>> nil, half, one, two, less = (0, 1), (1, 2), (1, 1), (2, 1), (-1, 1)
>>> pair, swap = ((two, one), (one, two)), ((nil, one), (one, nil))
>>> [is_change((1, 0, 1), (1, 1, 0), (2, 0, 0)), is_change((1, 0, 1), (0, 1, 1), (2, 0, 0)), is_change((0, 1, 0), (1, 0, 0), (0, 1, 0)), is_change((2, 0, 0), (0, 0, 2), (0, 2, 0))]
[True, False, False, True]
>>> [least_change((1, 0, 1), (2, 0, 0)), least_change((2, 0, 0), (0, 1, 1)), least_change((1, 1, 1), (0, 3, 0)), least_change((0, 2, 0), (0, 2, 0))]
[(1, 0), (0, 2), (1, 1), (0, 0)]
>>> [change_to(((nil,),), nil, (1, 0, 0), (1, 0, 0))[0][0][0] > 0, change_to(((two,),), nil, (0, 0, 1), (0, 1, 0)), change_to(pair, two, (0, 2, 0), (1, 0, 1)), change_to(swap, nil, (0, 1, 1), (2, 0, 0))]
[True, (((-2, 1),),), (((0, 1), (0, 1)), ((0, 1), (0, 1))), None]
"""

NEARBY = r"""
>>> from rootsabove.nearby import above_near, distance_near, first_near, high_table, last_near, low_table, near_table
>>> gold, loose = ((nil, one), (one, two)), ((nil, one), (one, nil))
>>> [above_near(pair, two, one), above_near(pair, two, (3, 2)), above_near(pair, two, nil), near_table(pair, two, one, 2), near_table(((one,),), nil, one, 0)]
[(0, 1), (0, 2), (1, 1), None, (((-1, 1),),)]
>>> [distance_near(pair, two, 2, 10), distance_near(pair, two, 0, 10), distance_near(pair, two, 1, 10), distance_near(gold, nil, 2, 10)]
[(10, True), (10, True), (0, True), (4, False)]
>>> [last_near(pair, loose, 10), first_near(pair, loose, 10), low_table(pair, loose, nil), high_table(pair, loose, (4, 1)), low_table(pair, loose, half) is None]
[(0, True), (40, True), None, None, False]
"""

FILLINGS = r"""
>>> from rootsabove.fillings import bordered, fill_triples, filled, is_bordered
>>> [fill_triples(((nil,),), ((one,),)), fill_triples(((one,),), ((one,),)), fill_triples(pair, ((one, less),))]
[((1, 0, 1),), ((1, 0, 1), (1, 1, 0), (2, 0, 0)), ((2, 0, 1), (2, 1, 0), (3, 0, 0))]
>>> [filled(((one,),), ((one,),), (1, 1, 0)), filled(((nil,),), ((one,),), (2, 0, 0)), filled(pair, ((one, less),), (2, 1, 0)), len(filled(((nil,),), ((one,), (two,)), (2, 0, 1)))]
[(((1, 1),),), None, (((2, 1),),), 2]
>>> [is_bordered((1, 0, 0), (1, 0, 0), (1, 0, 1)), is_bordered((0, 1, 0), (0, 1, 0), (1, 1, 0)), is_bordered((1, 0, 0), (0, 0, 1), (2, 0, 0)), is_bordered((0, 2, 0), (0, 2, 0), (2, 0, 2))]
[True, False, False, True]
>>> [bordered(((nil,),), (0, 1, 0), (1, 1, 0)), bordered(((one,),), (1, 0, 0), (1, 1, 0)) is None, bordered(((nil,),), (0, 1, 0), (0, 2, 0))]
[None, False, ((((0, 1),),), (((0, 1),),))]
"""

CERTIFICATES = r"""
>>> from rootsabove.certificates import certify_bordering, certify_change, certify_from, certify_mean, certify_spread, certify_within
>>> from rootsabove.checker import accepts
>>> [certify_from(pair, two, 1)[0][0], certify_from(pair, two, 2)[0][0], certify_within(pair, one, two, 2)[0][0], certify_mean(two, one, one, three), certify_spread((three, one), (nil, four))]
['roots from', 'fewer from', 'fewer within', (('surely within', (2, 1), (1, 1), (1, 1), (3, 1)), ()), (('not spread', ((3, 1), (1, 1)), ((0, 1), (4, 1))), 1)]
>>> [certify_change((1, 0, 1), (0, 1, 1), (2, 0, 0)), accepts(("roots from", pair, two, 1), ((one, one),)), accepts(("roots from", pair, two, 1), ((one, less),)), accepts(certify_bordering((0, 1, 0), (0, 1, 0), (1, 0, 1))[0], ())]
[(('no change', (1, 0, 1), (0, 1, 1), (2, 0, 0)), ()), True, False, False]
"""


class Examples(unittest.TestCase):
    def check(self, name, text):
        test = doctest.DocTestParser().get_doctest(text, {}, name, None, None)
        told = []
        failed, tried = doctest.DocTestRunner(verbose=False).run(test, out=told.append)
        self.assertGreater(tried, 0)
        self.assertEqual(failed, 0, "".join(told))

    def test_tables(self):
        self.check("tables", TABLES)

    def test_trials_stretches_means(self):
        # The names are those that the examples of tables.py bind.
        self.check("trials, stretches, means", TABLES + TRIALS + STRETCHES + MEANS)

    def test_laced_changes_spreads(self):
        # Those of laced.py bind the names.
        self.check("laced, changes, spreads", LACED + CHANGES + SPREADS)

    def test_ranks_nearby_fillings(self):
        # Those of ranks.py bind the names.
        self.check("ranks, nearby, fillings", RANKS + NEARBY + FILLINGS)

    def test_whole_interface(self):
        # In the order in which it stands: the names that are bound go on.
        self.check("interface", TABLES + TRIALS + STRETCHES + MEANS + LACED + CHANGES + SPREADS + RANKS + NEARBY
                   + FILLINGS + CERTIFICATES)

    def test_readme(self):
        self.check("README.md", (Path(__file__).resolve().parent.parent / "README.md").read_text())


if __name__ == "__main__":
    unittest.main()
