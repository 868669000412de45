"""[12], [13]: mean and spread of a row, what is sure within a stretch, outside roots, the greatest bound."""

import unittest
from fractions import Fraction
from itertools import product

import byhand
from byhand import FIGURES, read, row_told, source_of, table_told, told
from rootsabove.means import greatest_bound, mean_of, outside, spread_of, surely_within
from rootsabove.stretches import stretch_table, within
from rootsabove.tables import rows_at
from rootsabove.trials import trial_counts
from samples import GOLDEN, great_tables, other_tables, planted_tables

SMALL = [Fraction(number, 2) for number in range(-3, 4)]
SPREADS = [Fraction(0), Fraction(1, 100), Fraction(1, 4), Fraction(1, 2), Fraction(1), Fraction(5, 4), Fraction(9, 4),
           Fraction(40)]
LITTLE = Fraction(1, FIGURES)


def mean_by_hand(table, row):
    return byhand.dot(row, byhand.led(table, row)) / byhand.dot(row, row)


def spread_by_hand(table, row):
    """By the row less its part along: what the table takes it to, less the mean times it, has this length."""
    rest = byhand.led(byhand.less(table, mean_by_hand(table, row)), row)
    return byhand.dot(rest, rest) / byhand.dot(row, row)


def shared(roots, shares):
    """The mean and the spread of a row with the shares in the roots."""
    mean = sum(share * root for share, root in zip(shares, roots))
    return mean, sum(share * (root - mean) ** 2 for share, root in zip(shares, roots))


def some_shares(source, many):
    while True:
        lots = [source.randrange(4) for _ in range(many)]
        if any(lots):
            return [Fraction(lot, sum(lots)) for lot in lots]


class Means(unittest.TestCase):
    def check(self, table, row):
        form, tried = table_told(table), row_told(row)
        mean, spread = mean_of(form, tried), spread_of(form, tried)
        self.assertTrue(byhand.is_told(mean) and byhand.is_told(spread))
        self.assertEqual(read(mean), mean_by_hand(table, row))
        self.assertEqual(read(spread), spread_by_hand(table, row))
        self.assertGreaterEqual(spread[0], 0)
        taken = byhand.led(table, row) == [read(mean) * number for number in row]
        self.assertEqual(spread[0] == 0, taken)
        return read(mean), read(spread)

    def test_some_rows(self):
        source = source_of(51)
        for table in list(other_tables(52, 6)) + [table for _, table in planted_tables()]:
            row = byhand.some_rows(source, len(table), 1)[0]
            with self.subTest(table=table, row=row):
                told_so = self.check(table, row)
                for factor in (-1, Fraction(7, 3), LITTLE):
                    self.assertEqual(self.check(table, [factor * number for number in row]), told_so)

    def test_shares_in_roots(self):
        source = source_of(53)
        for size in range(1, 6):
            for _ in range(6):
                roots = [byhand.some_fraction(source) for _ in range(size)]
                row = byhand.some_rows(source, size, 1)[0]
                shares = [number * number / byhand.dot(row, row) for number in row]
                self.assertEqual(self.check(byhand.along(roots), row), shared(roots, shares))

    def test_rows_at_roots(self):
        for roots, table in planted_tables():
            for root in set(roots):
                for row in rows_at(table_told(table), told(root)):
                    self.assertEqual(mean_of(table_told(table), row), told(root))
                    self.assertEqual(spread_of(table_told(table), row), (0, 1))

    def test_one_row(self):
        self.assertEqual(self.check([[Fraction(5, 3)]], [Fraction(-2)]), (Fraction(5, 3), 0))
        self.assertEqual(self.check(GOLDEN, [Fraction(0), Fraction(1)]), (1, 1))
        self.assertEqual(self.check(GOLDEN, [Fraction(2), Fraction(1)]), (1, 1))

    def test_sign_of_the_stretch_table(self):
        # Its worth at x is x . x times (spread + (mean - LOW) (mean - HIGH)).
        source = source_of(54)
        for table in other_tables(55, 3):
            row = byhand.some_rows(source, len(table), 1)[0]
            mean, spread = self.check(table, row)
            form, tried = table_told(table), row_told(row)
            for low, high in ((-1, 1), (0, 0), (mean, mean + 1), (mean - 2, mean + 2), (mean - spread, mean + 1)):
                expected = spread + (mean - low) * (mean - high)
                stretch = stretch_table(form, told(low), told(high))
                counts = trial_counts(stretch, (0, 1), (tried,))
                self.assertEqual(counts, (int(expected > 0), int(expected == 0), int(expected < 0)))
                if surely_within(told(mean), told(spread), told(low), told(high)):
                    self.assertLessEqual(expected, 0)
                    self.assertGreater(within(form, told(low), told(high)), 0)

    def test_great(self):
        source = source_of(56)
        for table in great_tables():
            self.check(table, [byhand.great_fraction(source) for _ in table])
            self.check(table, [Fraction(1)] + [LITTLE] * (len(table) - 1))


class Stretches(unittest.TestCase):
    def check(self, mean, spread, low, high):
        """Whether it is sure, by the words of [12]; where it is not, the outside roots are put together."""
        numbers = row_told((mean, spread, low, high))
        expected = low <= mean <= high and spread <= (mean - low) * (high - mean)
        self.assertIs(surely_within(*numbers), expected)
        found = outside(*numbers)
        if expected:
            self.assertIsNone(found)
            return
        self.assertTrue(byhand.is_row_of(found, 3))
        lower, upper, share = byhand.row_read(found)
        self.assertLessEqual(lower, upper)
        self.assertFalse(low <= lower <= high or low <= upper <= high)
        self.assertTrue(0 <= share <= 1)
        self.assertEqual(share * lower + (1 - share) * upper, mean)
        self.assertEqual((upper - lower) ** 2 * share * (1 - share), spread)
        self.assertEqual(shared([lower, upper], [share, 1 - share]), (mean, spread))

    def test_small(self):
        for mean, low, high in product(SMALL, repeat=3):
            if low <= high:
                for spread in SPREADS:
                    with self.subTest(mean=mean, spread=spread, low=low, high=high):
                        self.check(mean, spread, low, high)

    def test_just_let_and_just_not(self):
        source = source_of(57)
        for _ in range(200):
            low, mean, high = sorted(byhand.some_fraction(source) for _ in range(3))
            most = (mean - low) * (high - mean)
            for spread in (most, most + LITTLE, most + 1, most - LITTLE, Fraction(0)):
                if spread >= 0:
                    with self.subTest(mean=mean, spread=spread, low=low, high=high):
                        self.check(mean, spread, low, high)
            ends = row_told((low, high))
            self.assertIs(surely_within(told(mean), told(most), *ends), True)
            self.assertIs(surely_within(told(mean), told(most + LITTLE), *ends), False)

    def test_mean_at_an_end(self):
        for low, high in ((0, 3), (Fraction(-1, 2), Fraction(-1, 2)), (1, 1 + LITTLE)):
            for end, step in ((low, -LITTLE), (high, LITTLE)):
                for spread, is_sure in ((Fraction(0), True), (LITTLE, False), (Fraction(1), False)):
                    self.assertIs(surely_within(*row_told((end, spread, low, high))), is_sure)
                    self.check(end, spread, low, high)
                    self.assertIs(surely_within(*row_told((end + step, spread, low, high))), False)
                    self.check(end + step, spread, low, high)

    def test_all_tables(self):
        # Any roots, any shares: where it is told to be sure, some root is within.
        source = source_of(58)
        sure = 0
        for _ in range(1500):
            many = source.randrange(1, 6)
            roots = [Fraction(source.randrange(-4, 5), source.randrange(1, 3)) for _ in range(many)]
            mean, spread = shared(roots, some_shares(source, many))
            low, high = sorted((byhand.some_fraction(source, 8), byhand.some_fraction(source, 8)))
            self.check(mean, spread, low, high)
            if surely_within(*row_told((mean, spread, low, high))):
                sure += 1
                self.assertTrue(any(low <= root <= high for root in roots))
        self.assertGreater(sure, 100)

    def test_great(self):
        source = source_of(59)
        for _ in range(20):
            low, mean, high = sorted(byhand.great_fraction(source) for _ in range(3))
            most = (mean - low) * (high - mean)
            for spread in (most, most + LITTLE ** 2, abs(most - LITTLE), Fraction(0), LITTLE, Fraction(FIGURES)):
                self.check(mean, spread, low, high)
                self.check(low, spread, mean, high)
                self.check(high, spread, low, mean)

    def test_returned_may_be_passed(self):
        first = outside((2, 1), (1, 1), (1, 1), (5, 2))
        for _ in range(6):
            lower, upper, share = first
            self.assertLessEqual(read(lower), read(upper))
            again = outside(share, (1, 1), lower, upper)
            first = again if again is not None else outside(upper, upper, lower, lower)


class GreatestBound(unittest.TestCase):
    def check(self, mean, spread, most):
        found = greatest_bound(*row_told((mean, spread, most)))
        self.assertTrue(byhand.is_told(found))
        self.assertEqual(read(found), mean + spread / (mean - most))
        return read(found)

    def test_planted_roots_with_shares(self):
        source = source_of(60)
        tried = 0
        while tried < 300:
            many = source.randrange(1, 6)
            roots = sorted((byhand.some_fraction(source) for _ in range(many)), reverse=True)
            mean, spread = shared(roots, some_shares(source, many))
            least = roots[1] if many > 1 else mean - 1
            if least < mean:
                tried += 1
                for most in (least, (least + mean) / 2, mean - (mean - least) * LITTLE):
                    self.assertTrue(mean <= roots[0] <= self.check(mean, spread, most))

    def test_comes_for_two_rows(self):
        # Of roots at MOST and above it the upper one is the bound, whatever its share.
        for most, root in ((Fraction(0), Fraction(3)), (Fraction(-7, 2), Fraction(1, 3)), (Fraction(1), 1 + LITTLE)):
            for share in (Fraction(1), Fraction(1, 2), Fraction(3, 5), LITTLE):
                mean, spread = shared([root, most], [share, 1 - share])
                self.assertEqual(self.check(mean, spread, most), root)

    def test_tables(self):
        source = source_of(61)
        for roots, table in planted_tables():
            row = byhand.some_rows(source, len(table), 1)[0]
            form, tried = table_told(table), row_told(row)
            mean, spread = mean_of(form, tried), spread_of(form, tried)
            others = sorted(roots)[:-1]
            if others and others[-1] < read(mean):
                bound = read(greatest_bound(mean, spread, told(others[-1])))
                self.assertTrue(read(mean) <= max(roots) <= bound)

    def test_no_spread(self):
        for mean, most in ((Fraction(1), Fraction(0)), (Fraction(-2, 7), Fraction(-3)), (LITTLE, Fraction(0))):
            self.assertEqual(self.check(mean, Fraction(0), most), mean)

    def test_great(self):
        source = source_of(62)
        for _ in range(20):
            most, mean = sorted(byhand.great_fraction(source) for _ in range(2))
            self.check(mean, abs(byhand.great_fraction(source)), most)
            self.check(mean, LITTLE, mean - LITTLE)


if __name__ == "__main__":
    unittest.main()
