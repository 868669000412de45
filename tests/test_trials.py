"""[9], [10]: trial counts, rows of a worth from 0 on and below 0, trials of counts."""

import unittest
from fractions import Fraction
from itertools import product

import byhand
from byhand import FIGURES, counts_to, row_read, source_of, table_read, table_told, told
from rootsabove.tables import root_counts, rows_at
from rootsabove.trials import is_trial, rows_below, rows_from, trial_counts, trial_example
from samples import GOLDEN, SILVER, great_tables, other_tables, planted_tables

NUMBERS = (Fraction(0), Fraction(1), Fraction(-5, 4), Fraction(7, 3))


def trials_by_corners(counts):
    """All trials, by one row fewer at a time: each root of a corner lies between two of the table (Cauchy).

    So at most one root above, one at and one below goes, and one comes at 0 only where one goes on both sides.
    """
    found = now = {counts}
    for _ in range(sum(counts) - 1):
        now = {(a - i, z + i + j - 1, b - j) for a, z, b in now for i in (0, 1) for j in (0, 1)
               if a >= i and b >= j and z + i + j >= 1}
        found = found | now
    return found


class TrialCounts(unittest.TestCase):
    def check(self, table, number, rows):
        found = trial_counts(table_told(table), told(number), table_told(rows))
        seen = byhand.seen_by(rows, byhand.less(table, number))
        self.assertEqual(found, byhand.counts_by_signs(seen, 0))
        self.assertEqual(found, byhand.counts_by_squares(seen, 0))
        self.assertIs(type(found), tuple)
        self.assertEqual([type(count) for count in found], [int] * 3)
        return found

    def test_some_rows(self):
        source = source_of(31)
        for table in other_tables(32, 4):
            for many in range(1, len(table) + 1):
                rows = byhand.some_rows(source, len(table), many)
                for number in NUMBERS[:2]:
                    with self.subTest(table=table, rows=rows, number=number):
                        found = self.check(table, number, rows)
                        counts = byhand.counts_by_squares(table, number)
                        self.assertIn(found, trials_by_corners(counts))
                        self.assertIs(is_trial(counts, found), True)
                        if many == len(table):
                            self.assertEqual(found, counts)

    def test_rows_at_roots(self):
        for roots, table in planted_tables():
            form = table_told(table)
            for root in sorted(set(roots)):
                rows = rows_at(form, told(root))
                for other in roots:
                    with self.subTest(roots=roots, root=root, other=other):
                        expected = byhand.counts_of_roots([root] * len(rows), other)
                        self.assertEqual(trial_counts(form, told(other), rows), expected)

    def test_other_rows_with_the_same_multiples(self):
        table = [[Fraction(number) for number in row] for row in ([0, 1, 2], [1, 3, -1], [2, -1, -4])]
        for rows in ([[1, 0, 0], [0, 1, 0]], [[0, 1, 0], [1, 0, 0]], [[-7, 0, 0], [0, Fraction(1, 9), 0]],
                     [[1, 1, 0], [1, -1, 0]], [[FIGURES, 1, 0], [FIGURES, Fraction(1, FIGURES), 0]]):
            self.assertEqual(self.check(table, 0, rows), (1, 0, 1))
            self.assertEqual(self.check(table, 4, rows), (0, 0, 2))
            self.assertEqual(self.check(table, -4, rows), (2, 0, 0))

    def test_worths_of_nought(self):
        swap = [[Fraction(0), Fraction(1)], [Fraction(1), Fraction(0)]]
        twice = byhand.blocks([swap, [[0]], swap])
        for rows, expected in (([[1, 0, 0, 0, 0]], (0, 1, 0)), ([[0, 0, 1, 0, 0]], (0, 1, 0)),
                               ([[1, 0, 0, 0, 0], [0, 0, 0, 0, 1]], (0, 2, 0)),
                               ([[1, 0, 0, 0, 0], [0, 0, 1, 0, 0], [0, 0, 0, 1, 0]], (0, 3, 0)),
                               ([[1, 0, 0, 0, 0], [0, 1, 0, 0, 0]], (1, 0, 1)),
                               ([[1, 1, 0, 0, 0], [0, 0, 0, 1, -1], [0, 0, 1, 0, 0]], (1, 1, 1))):
            self.assertEqual(self.check(twice, 0, rows), expected)
        self.assertEqual(self.check([[Fraction(3)]], 3, [[-2]]), (0, 1, 0))

    def test_great(self):
        source = source_of(33)
        for table in great_tables():
            size = len(table)
            for many in {1, size}:
                rows = [[byhand.great_fraction(source) for _ in range(size)] for _ in range(many)]
                found = trial_counts(table_told(table), (1, FIGURES), table_told(rows))
                self.assertEqual(found, byhand.counts_by_squares(
                    byhand.seen_by(rows, byhand.less(table, Fraction(1, FIGURES))), 0))
                if many == size:
                    self.assertEqual(found, root_counts(table_told(table), (1, FIGURES)))


class Rows(unittest.TestCase):
    def check(self, table, number, counts):
        """Both functions: the rows are free, as many as asked, and all sums of multiples have the worth."""
        form, size = byhand.less(table, number), len(table)
        for find, many in ((rows_from, counts[0] + counts[1]), (rows_below, counts[2])):
            rows = find(table_told(table), told(number))
            self.assertIs(type(rows), tuple)
            self.assertEqual(len(rows), many)
            if many == 0:
                continue
            for row in rows:
                self.assertTrue(byhand.is_row_of(row, size))
            read = table_read(rows)
            self.assertEqual(byhand.rank(read), many)
            above, at_nought, below = byhand.counts_by_squares(byhand.seen_by(read, form), 0)
            if find == rows_from:
                self.assertEqual((above + at_nought, below), (many, 0))
            else:
                self.assertEqual((above, at_nought, below), (0, 0, many))
            self.assertEqual(trial_counts(table_told(table), told(number), rows), (above, at_nought, below))

    def test_planted(self):
        for roots, table in planted_tables():
            for number in sorted(set(roots)) + [Fraction(1, 3), 9, -9]:
                with self.subTest(roots=roots, table=table, number=number):
                    self.check(table, number, byhand.counts_of_roots(roots, number))

    def test_others(self):
        for table in other_tables(34):
            for number in NUMBERS:
                with self.subTest(table=table, number=number):
                    self.check(table, number, byhand.counts_by_signs(byhand.less(table, number), 0))

    def test_no_fractions(self):
        for parts, number, counts in (
                ([GOLDEN], Fraction(8, 5), (1, 0, 1)), ([GOLDEN], Fraction(17, 10), (0, 0, 2)),
                ([GOLDEN], Fraction(-7, 10), (2, 0, 0)), ([GOLDEN, SILVER], 2, (1, 0, 3)),
                ([GOLDEN, SILVER, [[2]]], 2, (1, 1, 3)), ([GOLDEN, GOLDEN, [[0]]], 0, (2, 1, 2)),
                ([GOLDEN, [[1]], [[1]]], 1, (1, 2, 1)), ([GOLDEN, [[1]], [[1]]], Fraction(-1, 2), (3, 0, 1))):
            for table in (byhand.blocks(parts), byhand.mixed(source_of(35), byhand.blocks(parts))):
                with self.subTest(parts=parts, number=number):
                    self.check(table, Fraction(number), counts)

    def test_none(self):
        for _, table in planted_tables():
            self.assertEqual(rows_from(table_told(table), (7, 1)), ())
            self.assertEqual(rows_below(table_told(table), (-7, 1)), ())
        self.assertEqual(rows_below((((2, 1),),), (2, 1)), ())
        self.assertEqual(len(rows_from((((2, 1),),), (2, 1))), 1)

    def test_great(self):
        for table in great_tables():
            for number in (Fraction(0), table[-1][-1], Fraction(-1, FIGURES)):
                self.check(table, number, root_counts(table_told(table), told(number)))
        roots = [Fraction(FIGURES), Fraction(FIGURES), Fraction(1, FIGURES), Fraction(0), Fraction(-FIGURES)]
        table = byhand.planted(source_of(36), roots)
        for number in roots:
            for step in (Fraction(0), Fraction(1, FIGURES), Fraction(-1, 3 * FIGURES)):
                self.check(table, number + step, byhand.counts_of_roots(roots, number + step))


class Trials(unittest.TestCase):
    def test_every_trial(self):
        for counts in counts_to(5):
            expected = trials_by_corners(counts)
            for trial in counts_to(sum(counts)):
                with self.subTest(counts=counts, trial=trial):
                    self.assertIs(is_trial(counts, trial), trial in expected)
                    example = trial_example(counts, trial)
                    if trial in expected:
                        self.check_example(counts, trial, example)
                    else:
                        self.assertIsNone(example)

    def check_example(self, counts, trial, example):
        self.assertIs(type(example), tuple)
        table, rows = example
        size, many = sum(counts), sum(trial)
        for value, length in ((table, size), (rows, many)):
            self.assertIs(type(value), tuple)
            self.assertEqual(len(value), length)
            for row in value:
                self.assertTrue(byhand.is_row_of(row, size))
        form, tried = table_read(table), table_read(rows)
        self.assertEqual([list(column) for column in zip(*form)], form)
        self.assertEqual(byhand.rank(tried), many)
        self.assertEqual(byhand.counts_by_squares(form, 0), counts)
        self.assertEqual(byhand.counts_by_signs(byhand.seen_by(tried, form), 0), trial)
        self.assertEqual(root_counts(table, (0, 1)), counts)
        self.assertEqual(trial_counts(table, (0, 1), rows), trial)

    def test_words(self):
        # Witt, as the promise tells it.
        for (a, z, b), (p, y, q) in product(counts_to(5), counts_to(5)):
            if p + y + q <= a + z + b:
                expected = p <= a and q <= b and y <= z + min(a - p, b - q)
                self.assertIs(is_trial((a, z, b), (p, y, q)), expected)

    def test_all_rows(self):
        source = source_of(37)
        for counts in counts_to(4):
            table = byhand.planted(source, source.sample([2] * counts[0] + [0] * counts[1] + [-3] * counts[2],
                                                         sum(counts)))
            for many in range(1, sum(counts) + 1):
                for _ in range(3):
                    rows = byhand.some_rows(source, sum(counts), many)
                    found = trial_counts(table_told(table), (0, 1), table_told(rows))
                    self.assertIs(is_trial(counts, found), True)

    def test_rows_of_opposite_worths(self):
        # [10]: of rows x and y of opposite worths with x . (A y) = 0 the sum has the worth 0.
        table, rows = trial_example((2, 0, 2), (0, 2, 0))
        for row in table_read(rows):
            self.assertEqual(byhand.dot(row, byhand.led(table_read(table), row)), 0)
            self.assertNotEqual(byhand.led(table_read(table), row_read(rows[0])), [0] * 4)


if __name__ == "__main__":
    unittest.main()
