"""[11]: the stretch table, how many roots are from LOW to HIGH, rows of a worth of the stretch table up to 0."""

import unittest
from fractions import Fraction

import byhand
from byhand import FIGURES, read, source_of, table_read, table_told, told
from rootsabove.stretches import rows_within, stretch_table, within
from rootsabove.tables import is_table, root_counts
from rootsabove.trials import trial_counts
from samples import GOLDEN, SILVER, great_tables, other_tables, planted_tables

STRETCHES = ((Fraction(0), Fraction(1)), (Fraction(-5, 4), Fraction(-5, 4)), (Fraction(-2), Fraction(7, 3)),
             (Fraction(1), Fraction(1)), (Fraction(-100), Fraction(100)), (Fraction(50), Fraction(60)))


class Stretches(unittest.TestCase):
    def check(self, table, low, high, many=None):
        """The stretch table, the count and the rows, each seen again by hand; how many roots are within."""
        form, ends = table_told(table), (told(low), told(high))
        stretch = byhand.multiplied(byhand.less(table, low), byhand.less(table, high))
        self.assertEqual(stretch_table(form, *ends), table_told(stretch))
        self.assertIs(is_table(stretch_table(form, *ends)), True)
        found = within(form, *ends)
        self.assertIs(type(found), int)
        if many is None:
            many = len(table) - byhand.counts_by_signs(table, high)[0] - byhand.counts_by_signs(table, low)[2]
        self.assertEqual(found, many)
        self.assertEqual(byhand.counts_by_squares(stretch, 0)[0], len(table) - many)
        self.check_rows(rows_within(form, *ends), stretch, many)

    def check_rows(self, rows, stretch, many):
        self.assertIs(type(rows), tuple)
        self.assertEqual(len(rows), many)
        for row in rows:
            self.assertTrue(byhand.is_row_of(row, len(stretch)))
        if many > 0:
            tried = table_read(rows)
            self.assertEqual(byhand.rank(tried), many)
            above, at_nought, below = byhand.counts_by_squares(byhand.seen_by(tried, stretch), 0)
            self.assertEqual((above, at_nought + below), (0, many))

    def test_planted(self):
        little = Fraction(1, 10 ** 6)
        for roots, table in planted_tables():
            ends = sorted(set(roots))
            for low, high in ([(end, end) for end in ends] + [(ends[0], ends[-1]), (ends[0] + little, ends[-1]),
                              (ends[0], ends[-1] + 1), (ends[-1] + little, ends[-1] + 2), (ends[0] - 9, ends[0] - little)]):
                if low <= high:
                    with self.subTest(roots=roots, low=low, high=high):
                        self.check(table, low, high, sum(low <= root <= high for root in roots))

    def test_between_like_roots(self):
        source = source_of(41)
        roots = [3, 3, 1, 1, -2]
        table = byhand.planted(source, source.sample(roots, 5))
        for low in range(-4, 5):
            for high in range(low, 5):
                self.check(table, low, high, sum(low <= root <= high for root in roots))
                half = high + Fraction(1, 2)
                self.check(table, low, half, sum(low <= root <= half for root in roots))

    def test_others(self):
        for table in other_tables(42, 5):
            for low, high in STRETCHES:
                with self.subTest(table=table, low=low, high=high):
                    self.check(table, low, high)

    def test_no_fractions(self):
        # golden has the roots 1.618.. and - 0.618.., silver 2.414.. and - 0.414..
        for parts, low, high, many in (
                ([GOLDEN], "1", "2", 1), ([GOLDEN], "-1", "2", 2), ([GOLDEN], "-0.6", "1.6", 0),
                ([GOLDEN], "1.61803", "1.61804", 1), ([GOLDEN], "1.61804", "1.61805", 0), ([GOLDEN], "1.6", "1.6", 0),
                ([GOLDEN, GOLDEN, [[0]]], "0", "2", 3), ([GOLDEN, GOLDEN, [[0]]], "0", "0", 1),
                ([GOLDEN, SILVER], "-0.5", "1.7", 2), ([GOLDEN, SILVER, [[1]]], "-0.7", "2.5", 5)):
            for table in (byhand.blocks(parts), byhand.mixed(source_of(43), byhand.blocks(parts))):
                with self.subTest(parts=parts, low=low, high=high):
                    self.check(table, Fraction(low), Fraction(high), many)

    def test_none_and_all(self):
        for size in range(1, 6):
            table = byhand.planted(source_of(44), list(range(size)))
            form = table_told(table)
            self.assertEqual(rows_within(form, (1, 3), (2, 3)), ())
            self.assertEqual(within(form, (1, 3), (2, 3)), 0)
            self.assertEqual(len(rows_within(form, (0, 1), (size - 1, 1))), size)
            self.assertEqual(within(form, (0, 1), (size - 1, 1)), size)

    def test_low_and_high_alike(self):
        # Z is a square then: its roots are from 0 on, and 0 where A has the root.
        for table in other_tables(45, 3):
            form = table_told(table)
            for end in ((0, 1), (1, 1), (-3, 2)):
                stretch = stretch_table(form, end, end)
                self.assertEqual(root_counts(stretch, (0, 1))[2], 0)
                self.assertEqual(within(form, end, end), root_counts(form, end)[1])
                for row in table_read(rows_within(form, end, end)):
                    self.assertEqual(byhand.led(table, row), [read(end) * number for number in row])

    def test_great(self):
        for table in great_tables():
            for low, high in ((Fraction(0), Fraction(FIGURES)), (Fraction(-1, FIGURES), Fraction(2, FIGURES)),
                              (table[0][0], table[0][0]), (Fraction(-FIGURES, 7), Fraction(FIGURES, 3))):
                if len(table) < 5 or high == FIGURES:
                    self.check(table, low, high)
        little, far = Fraction(1, FIGURES), Fraction(FIGURES)
        roots = [far, far, far - little, little, -far]
        table = byhand.planted(source_of(46), roots)
        for low, high, many in ((far, far, 2), (far - little, far - little, 1), (far - little, far, 3), (0, far, 4),
                                (little, 1, 1), (2 * little, far - 2 * little, 0), (-far, far, 5)):
            self.check(table, Fraction(low), Fraction(high), many)

    def test_great_rows_may_be_passed(self):
        source = source_of(47)
        for size, is_whole in ((5, True), (4, False)):
            table = byhand.great_table(source, size, is_whole)
            # The greatest root is no less than any number along.
            form, low, high = table_told(table), told(table[0][0]), told(table[0][0] + 100 * FIGURES)
            rows = rows_within(form, low, high)
            self.assertGreater(len(rows), 0)
            above, at_nought, below = trial_counts(stretch_table(form, low, high), (0, 1), rows)
            self.assertEqual((above, at_nought + below), (0, within(form, low, high)))


if __name__ == "__main__":
    unittest.main()
