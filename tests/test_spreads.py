"""[20], [21]: spread rows and turns, tables of the sums, trial sums."""

import unittest
from fractions import Fraction
from itertools import combinations

import byhand
from byhand import FIGURES, read, row_told, source_of, table_read, table_told, told
from rootsabove.spreads import is_spread, sum_near, sums_table, trial_sum, turned, turns_to
from rootsabove.tables import polynomial, root_counts, squares_of

ROOTS = (
    [0], [3, 1], [2, 2], [3, 2, 1], [5, 0, 0], [4, 4, -8], [Fraction(7, 2), 1, Fraction(1, 3), Fraction(-1, 3)],
    [1, 1, 1, 1], [9, 4, 4, 1, 0], [2, 1, 0, -1, -2], [1, 0, 0, 0, 0], [6, 5, 4, 3, 2, 1], [1, 1, 1, 0, 0, 0],
    [Fraction(FIGURES), 1, Fraction(1, FIGURES), 0, 0, Fraction(-FIGURES)],
)
PLANTED = ([4], [3, -1], [2, 2], [5, 1, -2], [1, 1, Fraction(1, 2)], [4, 2, 2, -3], [0, 0, 0, 0], [7, 3, 1, 0, -5],
           [2, 2, 2, -1, -1], [Fraction(FIGURES), Fraction(FIGURES), 1, 0, Fraction(-1, FIGURES)])
GOLDEN = [[Fraction(0), Fraction(1)], [Fraction(1), Fraction(1)]]


def led_by(row, turns):
    """The row after the turns, by the words of [20]."""
    row = list(row)
    for i, j, share in turns:
        share, d_i, d_j = read(share), row[i], row[j]
        row[i] = share * d_i + (1 - share) * d_j
        row[j] = share * d_j + (1 - share) * d_i
    return row


def are_spread(roots, row):
    """By the words of [20]: ALL lots of k numbers of the row at most the k greatest roots, the sums alike."""
    if sum(roots) != sum(row):
        return False
    for k in range(1, len(row)):
        if max(sum(lot) for lot in combinations(row, k)) > sum(sorted(roots, reverse=True)[:k]):
            return False
    return True


def some_turns(source, size, many):
    turns = []
    for _ in range(many if size > 1 else 0):
        i, j = source.sample(range(size), 2)
        share = source.choice([Fraction(0), Fraction(1), Fraction(1, 2), Fraction(source.randrange(8), 7)])
        turns.append((i, j, told(share)))
    return tuple(turns)


def spread_rows(source, roots):
    yield list(roots)
    yield list(roots)[::-1]
    yield [sum(roots, Fraction(0)) / len(roots)] * len(roots)
    for many in (1, 2, 3, 5, 8):
        row = led_by([Fraction(root) for root in roots], some_turns(source, len(roots), many))
        source.shuffle(row)
        yield row


class Spread(unittest.TestCase):
    def test_spread_rows(self):
        source = source_of(21)
        for roots in ROOTS:
            for row in spread_rows(source, roots):
                with self.subTest(roots=roots, row=row):
                    self.assertTrue(are_spread(roots, row))
                    self.assertIs(is_spread(row_told(roots), row_told(row)), True)

    def test_other_rows(self):
        source = source_of(22)
        for roots in ROOTS:
            for row in spread_rows(source, roots):
                for step in (Fraction(1), Fraction(1, FIGURES), Fraction(-1, 3)):
                    i, j = source.randrange(len(row)), source.randrange(len(row))
                    off = list(row)
                    off[i] += step
                    with self.subTest(roots=roots, off=off):
                        self.assertIs(is_spread(row_told(roots), row_told(off)), False)
                        self.assertIsNone(turns_to(row_told(roots), row_told(off)))
                    off[j] -= step
                    with self.subTest(roots=roots, off=off):
                        self.assertIs(is_spread(row_told(roots), row_told(off)), are_spread(roots, off))
                        self.assertEqual(turns_to(row_told(roots), row_told(off)) is None, not are_spread(roots, off))

    def test_each_sum_counts(self):
        roots = ((6, 1), (5, 1), (4, 1), (3, 1), (2, 1), (1, 1))
        for k in range(5):
            row = list(range(6, 0, -1))
            row[k] += Fraction(1, 9)
            row[k + 1] -= Fraction(1, 9)
            self.assertIs(is_spread(roots, row_told(row)), False)
            self.assertIs(is_spread(row_told(row), roots), True)

    def test_slants_of_planted_tables(self):
        source = source_of(23)
        for roots in PLANTED:
            for _ in range(4):
                table = byhand.planted(source, source.sample(roots, len(roots)))
                row = [table[k][k] for k in range(len(roots))]
                self.assertIs(is_spread(row_told(roots), row_told(row)), True)


class Turns(unittest.TestCase):
    def check(self, roots, row):
        size = len(roots)
        turns = turns_to(row_told(roots), row_told(row))
        self.assertIs(type(turns), tuple)
        self.assertLessEqual(len(turns), 2 * size - 2)
        for turn in turns:
            self.assertIs(type(turn), tuple)
            i, j, share = turn
            self.assertEqual([type(i), type(j)], [int, int])
            self.assertTrue(0 <= i < size and 0 <= j < size and i != j)
            self.assertTrue(byhand.is_told(share))
            self.assertTrue(0 <= read(share) <= 1)
        self.assertEqual(led_by([Fraction(root) for root in roots], turns), [Fraction(number) for number in row])
        self.assertEqual(turned(row_told(roots), turns), row_told(row))

    def test_lead(self):
        source = source_of(24)
        for roots in ROOTS:
            for row in spread_rows(source, roots):
                with self.subTest(roots=roots, row=row):
                    self.check(roots, row)

    def test_each_order(self):
        source = source_of(25)
        for size in range(1, 7):
            roots = sorted((byhand.some_fraction(source) for _ in range(size)), reverse=True)
            for _ in range(20):
                row = led_by(roots, some_turns(source, size, source.randrange(6)))
                source.shuffle(row)
                with self.subTest(roots=roots, row=row):
                    self.check(roots, row)

    def test_none(self):
        self.assertIsNone(turns_to(((1, 1),), ((2, 1),)))
        self.assertIsNone(turns_to(((1, 1), (1, 1)), ((2, 1), (0, 1))))
        self.assertEqual(turns_to(((1, 1), (1, 1)), ((1, 1), (1, 1))), ())


class Turned(unittest.TestCase):
    def test_words(self):
        source = source_of(26)
        for size in range(1, 7):
            for many in range(8):
                row = [byhand.some_fraction(source) for _ in range(size)]
                turns = some_turns(source, size, many)
                found = turned(row_told(row), turns)
                self.assertEqual(found, row_told(led_by(row, turns)))
                self.assertTrue(byhand.is_row_of(found, size))

    def test_shares_of_the_ends(self):
        row = ((5, 1), (1, 3), (-2, 1))
        self.assertEqual(turned(row, ()), row)
        self.assertEqual(turned(row, ((0, 2, (1, 1)), (1, 0, (1, 1)))), row)
        self.assertEqual(turned(row, ((0, 2, (0, 1)),)), ((-2, 1), (1, 3), (5, 1)))
        self.assertEqual(turned(row, ((2, 0, (0, 1)), (0, 1, (0, 1)))), ((1, 3), (-2, 1), (5, 1)))
        self.assertEqual(turned(row, ((0, 1, (1, 4)), (1, 0, (0, 1)))), ((23, 6), (3, 2), (-2, 1)))

    def test_turns_in_order(self):
        half = (1, 2)
        self.assertEqual(turned(((8, 1), (0, 1), (0, 1)), ((0, 1, half), (1, 2, half))), ((4, 1), (2, 1), (2, 1)))
        self.assertEqual(turned(((8, 1), (0, 1), (0, 1)), ((1, 2, half), (0, 1, half))), ((4, 1), (4, 1), (0, 1)))

    def test_great(self):
        row = [Fraction(FIGURES, 3), Fraction(-FIGURES), Fraction(1, FIGURES)]
        turns = ((0, 1, told(Fraction(FIGURES - 1, FIGURES))), (1, 2, (1, FIGURES)), (2, 0, (1, 3)))
        self.assertEqual(turned(row_told(row), turns), row_told(led_by(row, turns)))


def lots_of(roots, size):
    return sorted((sum(lot) for lot in combinations(roots, size)), reverse=True)


class SumsTable(unittest.TestCase):
    def test_words(self):
        source = source_of(27)
        for rows in range(1, 6):
            for size in range(1, rows + 1):
                table = byhand.some_table(source, rows)
                lots = sorted(combinations(range(rows), size))
                found = sums_table(table_told(table), size)
                self.assertEqual(len(found), len(lots))
                for row, one in zip(found, lots):
                    self.assertTrue(byhand.is_row_of(row, len(lots)))
                    for number, other in zip(row, lots):
                        self.assertEqual(read(number), self.number_at(table, one, other))

    def number_at(self, table, one, other):
        if one == other:
            return sum(table[i][i] for i in one)
        shared = set(one) & set(other)
        if len(shared) < len(one) - 1:
            return 0
        (i,), (j,) = set(one) - shared, set(other) - shared
        return (-1) ** (one.index(i) + other.index(j)) * table[i][j]

    def test_roots_of_planted_tables(self):
        source = source_of(28)
        for roots in PLANTED:
            table = byhand.planted(source, source.sample(roots, len(roots)))
            for size in range(1, len(roots) + 1):
                sums = lots_of(roots, size)
                form = table_read(sums_table(table_told(table), size))
                self.assertEqual(len(form), len(sums))
                for number in set(sums):
                    with self.subTest(roots=roots, size=size):
                        self.assertEqual(len(sums) - byhand.rank(byhand.less(form, number)), sums.count(number))
                if len(form) <= 5:
                    found = polynomial(table_told(form))
                    self.assertEqual(found, row_told(byhand.from_roots(sums)))

    def test_ends(self):
        source = source_of(29)
        for rows in range(1, 6):
            table = byhand.some_table(source, rows)
            self.assertEqual(sums_table(table_told(table), 1), table_told(table))
            trace = sum(table[k][k] for k in range(rows))
            self.assertEqual(sums_table(table_told(table), rows), ((told(trace),),))


class SumNear(unittest.TestCase):
    def test_planted(self):
        source = source_of(30)
        for roots in PLANTED:
            table = table_told(byhand.planted(source, source.sample(roots, len(roots))))
            for size in range(1, len(roots) + 1):
                for many in (1, 3, 7, 1000):
                    with self.subTest(roots=roots, size=size, many=many):
                        found = sum_near(table, size, many)
                        self.assertEqual(found, byhand.near(lots_of(roots, size)[0], many))
                        self.assertEqual([type(part) for part in found], [int, bool])

    def test_no_fractions(self):
        source = source_of(31)
        table = table_told(byhand.mixed(source, byhand.blocks([GOLDEN, GOLDEN, [[-3]]])))
        # 1.6180339.. once and twice; the sum of a golden table's two roots is 1.
        self.assertEqual([sum_near(table, 1, 1000), sum_near(table, 2, 1000), sum_near(table, 3, 1000)],
                         [(1618, False), (3236, False), (2618, False)])
        self.assertEqual([sum_near(table, 4, 1000), sum_near(table, 5, 1000)], [(2000, True), (-1000, True)])

    def test_told_by_counts(self):
        source = source_of(32)
        for rows in range(1, 6):
            for size in range(1, rows + 1):
                table = table_told(byhand.some_table(source, rows))
                form = table_read(sums_table(table, size))
                k, is_just = sum_near(table, size, 50)
                above, at_it, _ = byhand.counts_by_squares(form, Fraction(k, 50))
                self.assertGreater(above + at_it, 0)
                self.assertIs(is_just, above == 0)
                self.assertEqual(byhand.counts_by_squares(form, Fraction(k + 1, 50))[2], len(form))

    def test_great(self):
        source = source_of(33)
        for is_whole in (True, False):
            table = byhand.great_table(source, 3, is_whole)
            trace = sum(table[k][k] for k in range(3))
            self.assertEqual(sum_near(table_told(table), 3, 1000), byhand.near(trace, 1000))
            k, _ = sum_near(table_told(table), 2, 1000)
            # The sum of the two greatest roots is the trace less the last one.
            self.assertLessEqual(root_counts(table_told(table), told(trace - Fraction(k, 1000)))[0], 2)
            self.assertEqual(root_counts(table_told(table), told(trace - Fraction(k + 1, 1000))), (3, 0, 0))


def trial_sum_by_grams(table, rows):
    """The sum along the slant of G^-1 H, by Gauss and Jordan."""
    size = len(rows)
    both = [[byhand.dot(row, other) for other in rows] + [byhand.dot(row, byhand.led(table, other)) for other in rows]
            for row in rows]
    for column in range(size):
        pivot = next(k for k in range(column, size) if both[k][column] != 0)
        both[column], both[pivot] = both[pivot], both[column]
        both[column] = [number / both[column][column] for number in both[column]]
        for k in range(size):
            if k != column:
                both[k] = [a - both[k][column] * b for a, b in zip(both[k], both[column])]
    return sum(both[k][size + k] for k in range(size))


def free_rows(source, rows, many):
    while True:
        found = [[byhand.some_fraction(source) for _ in range(rows)] for _ in range(many)]
        if byhand.rank(found) == many:
            return found


class TrialSum(unittest.TestCase):
    def test_by_grams(self):
        source = source_of(34)
        for rows in range(1, 6):
            for many in range(1, rows + 1):
                for _ in range(4):
                    table, tried = byhand.some_table(source, rows), free_rows(source, rows, many)
                    found = trial_sum(table_told(table), table_told(tried))
                    self.assertTrue(byhand.is_told(found))
                    self.assertEqual(read(found), trial_sum_by_grams(table, tried))

    def test_same_multiples(self):
        source = source_of(35)
        for rows in range(2, 6):
            for many in range(1, rows + 1):
                table, tried = byhand.some_table(source, rows), free_rows(source, rows, many)
                by = free_rows(source, many, many)
                others = [[byhand.dot(line, [row[k] for row in tried]) for k in range(rows)] for line in by]
                self.assertEqual(trial_sum(table_told(table), table_told(others)),
                                 trial_sum(table_told(table), table_told(tried)))

    def test_between_sums_of_roots(self):
        source = source_of(36)
        for roots in PLANTED:
            table = byhand.planted(source, roots)
            for many in range(1, len(roots) + 1):
                tried = free_rows(source, len(roots), many)
                sums = lots_of(roots, many)
                self.assertTrue(sums[-1] <= read(trial_sum(table_told(table), table_told(tried))) <= sums[0])

    def test_all_rows_make_the_trace(self):
        source = source_of(37)
        for rows in range(1, 6):
            table, tried = byhand.some_table(source, rows), free_rows(source, rows, rows)
            trace = sum(table[k][k] for k in range(rows))
            self.assertEqual(trial_sum(table_told(table), table_told(tried)), told(trace))

    def test_rows_along(self):
        table = byhand.some_table(source_of(38), 5)
        for many in range(1, 6):
            for places in combinations(range(5), many):
                tried = [[Fraction(int(place == k)) for k in range(5)] for place in places]
                self.assertEqual(trial_sum(table_told(table), table_told(tried)),
                                 told(sum(table[k][k] for k in places)))

    def test_great(self):
        source = source_of(39)
        for is_whole in (True, False):
            table = byhand.great_table(source, 3, is_whole)
            tried = byhand.great_table(source, 3, is_whole)[:2]
            self.assertEqual(read(trial_sum(table_told(table), table_told(tried))), trial_sum_by_grams(table, tried))

    def test_what_was_returned_may_be_passed(self):
        table = table_told(byhand.great_table(source_of(40), 3, False))
        rows = tuple(row for _, row in squares_of(table, (1, FIGURES)))
        found = trial_sum(table, rows)
        self.assertEqual(read(found), sum(read(table[k][k]) for k in range(3)))
        mean = trial_sum(table, rows[:1])
        self.assertEqual(sum(root_counts(table, mean)), 3)
        # The mean of a row is not beyond all roots.
        self.assertLess(root_counts(table, mean)[0], 3)
        self.assertLess(root_counts(table, mean)[2], 3)


if __name__ == "__main__":
    unittest.main()
