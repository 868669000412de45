"""[18], [19]: changed tables and their counts, squares of a change, the one s for a number, counts for all s."""

import unittest
from fractions import Fraction
from itertools import product

import byhand
from byhand import FIGURES, falling, read, row_read, row_told, source_of, table_told, told
from rootsabove.changes import change_of, changed_counts, counts_along, factor_for
from rootsabove.tables import root_counts, rows_at
from samples import GOLDEN, SILVER, great_tables, other_tables, planted_tables

LITTLE = Fraction(1, FIGURES)
FACTORS = (Fraction(0), Fraction(1), Fraction(-1), Fraction(2, 3), Fraction(-5, 2))


def raised_by_counts(roots, others):
    """At each number as many of the roots as of the others, or one more, are from it on."""
    return all(0 <= sum(one >= number for one in roots) - sum(one >= number for one in others) <= 1
               for number in set(roots) | set(others))


def some_raised(source, roots):
    """Others, as many, each from the next root on up to its own, often at an end."""
    found = []
    for upper, lower in zip(roots, roots[1:] + [roots[-1] - 3]):
        share = source.choice([Fraction(0), Fraction(1), Fraction(1, 2), Fraction(source.randrange(1, 9), 9)])
        found.append(share * upper + (1 - share) * lower)
    return found


class ChangedCounts(unittest.TestCase):
    def check(self, along, squares, factor, number):
        found = changed_counts(row_told(along), row_told(squares), told(factor), told(number))
        numbers = byhand.changed_polynomial(along, squares, factor)
        self.assertEqual(found, byhand.counts_of_polynomial(numbers, number))
        self.assertEqual([type(count) for count in found], [int] * 3)
        return found

    def test_small(self):
        values = (Fraction(0), Fraction(1), Fraction(-2))
        for size in (1, 2, 3):
            for along in product(values[:3 if size < 3 else 2], repeat=size):
                for squares in product((Fraction(0), Fraction(1), Fraction(4, 3)), repeat=size):
                    for factor, number in product(FACTORS[:3], values):
                        with self.subTest(along=along, squares=squares, factor=factor, number=number):
                            self.check(along, squares, factor, number)

    def test_factor_such_that_the_number_is_a_root(self):
        source = source_of(91)
        tried = 0
        for size in range(1, 6):
            for _ in range(12):
                along = [byhand.some_fraction(source, 3) for _ in range(size)]
                squares = [abs(byhand.some_fraction(source, 2)) for _ in range(size)]
                number = byhand.some_fraction(source, 3)
                worth = sum(square / (one - number) for one, square in zip(along, squares) if one != number)
                if number not in along and worth != 0:
                    tried += 1
                    factor = -1 / worth
                    counts = byhand.counts_of_roots(along, number)
                    self.assertEqual(self.check(along, squares, factor, number)[1], 1)
                    # A little nearer to 0 nothing has gone, a little farther the root is over the number.
                    self.assertEqual(self.check(along, squares, factor * (1 - LITTLE), number), counts)
                    self.assertEqual(self.check(along, squares, factor * (1 + LITTLE), number)[1], 0)
        self.assertGreater(tried, 30)

    def test_told_by_tables(self):
        source = source_of(92)
        for size in range(1, 6):
            for _ in range(6):
                along = [Fraction(source.randrange(-1, 2)) for _ in range(size)]
                row = [Fraction(source.randrange(-2, 3), source.randrange(1, 3)) for _ in range(size)]
                for factor in FACTORS:
                    table = table_told(byhand.plus_row(byhand.along(along), row, factor))
                    for number in (-1, 0, 1, Fraction(1, 2)):
                        found = self.check(along, [one * one for one in row], factor, number)
                        self.assertEqual(found, root_counts(table, told(number)))

    def test_squares_of_nought(self):
        for along, squares, factor, number, expected in (
                ([2], [0], 1, 2, (0, 1, 0)), ([2], [1], 1, 2, (1, 0, 0)), ([2], [1], -1, 2, (0, 0, 1)),
                ([2], [1], 0, 2, (0, 1, 0)), ([2], [1], 1, 3, (0, 1, 0)), ([2], [1], -1, 1, (0, 1, 0)),
                ([2, 2], [0, 0], -1, 2, (0, 2, 0)), ([2, 2], [0, 1], -1, 2, (0, 1, 1)), ([2, 2], [1, 1], 1, 2, (1, 1, 0)),
                ([2] * 5, [1] * 5, 3, 2, (1, 4, 0)), ([2] * 5, [0] * 5, 3, 2, (0, 5, 0)),
                ([2, 2, 1], [0, 0, 1], 1, 2, (0, 3, 0)), ([2, 2, 1], [0, 0, 2], 1, 2, (1, 2, 0)),
                ([2, 2, 3], [0, 0, 1], -1, 2, (0, 3, 0)), ([2, 2, 3], [0, 0, 2], -1, 2, (0, 2, 1))):
            self.assertEqual(self.check([Fraction(one) for one in along], squares, Fraction(factor), number), expected)

    def test_great(self):
        source = source_of(93)
        for size in (1, 3, 5):
            along = [byhand.great_fraction(source) for _ in range(size)]
            squares = [abs(byhand.great_fraction(source)) for _ in range(size)]
            squares[-1] = Fraction(0)
            for factor in (byhand.great_fraction(source), LITTLE, -LITTLE):
                for number in along + [LITTLE]:
                    self.check(along, squares, factor, number)


class ChangeOf(unittest.TestCase):
    def check(self, roots, others):
        """The squares of the change, led back to the roots by its polynomial; whether there are some."""
        squares = change_of(row_told(roots), row_told(others))
        if not raised_by_counts(roots, others):
            self.assertIsNone(squares)
            return False
        self.assertTrue(byhand.is_row_of(squares, len(others)))
        numbers = row_read(squares)
        self.assertGreaterEqual(min(numbers), 0)
        self.assertEqual(byhand.changed_polynomial(others, numbers, 1), byhand.from_roots(roots))
        self.assertEqual(sum(numbers), sum(roots) - sum(others))
        for index in range(1, len(others)):
            if others[index] == others[index - 1]:
                self.assertEqual(squares[index], (0, 1))
        return True

    def check_counts(self, roots, others):
        squares = change_of(row_told(roots), row_told(others))
        for number in sorted(set(roots) | set(others)):
            for step in (Fraction(0), LITTLE, -LITTLE):
                found = changed_counts(row_told(others), squares, (1, 1), told(number + step))
                self.assertEqual(found, byhand.counts_of_roots(roots, number + step))

    def test_small(self):
        found = {True: 0, False: 0}
        for size in range(1, 6):
            values = range(4 if size < 4 else 3)
            for roots, others in product(falling(values, size), repeat=2):
                with self.subTest(roots=roots, others=others):
                    found[self.check(roots, others)] += 1
        self.assertGreater(min(found.values()), 100)

    def test_some_roots(self):
        source = source_of(94)
        for size in range(1, 7):
            for _ in range(12):
                roots = sorted((byhand.some_fraction(source, 4) for _ in range(size)), reverse=True)
                others = some_raised(source, roots)
                with self.subTest(roots=roots, others=others):
                    self.assertTrue(self.check(roots, others))
                    if size < 6:
                        self.check_counts(roots, others)
                    for index, end in ((0, roots[0] + LITTLE), (size - 1, roots[-1] + LITTLE)):
                        off = list(others)
                        off[index] = end
                        if off == sorted(off, reverse=True):
                            self.assertFalse(self.check(roots, off))
                    if size > 1:
                        off = others[:-1] + [min(others[-1], roots[-1] - 1)]
                        off[-2] = roots[-1] - LITTLE
                        if off == sorted(off, reverse=True):
                            self.assertFalse(self.check(roots, off))

    def test_one_and_like_ones(self):
        for roots, others, squares in (([2], [2], [0]), ([2], [-1], [3]), ([2] * 6, [2] * 6, [0] * 6),
                                       ([5] + [2] * 5, [2] * 6, [3] + [0] * 5), ([5, 5, 2], [5, 2, 2], [0, 3, 0]),
                                       ([5, 5, 2], [5, 5, 2], [0, 0, 0]), ([5, 5, 2], [5, 5, 0], [0, 0, 2])):
            self.assertTrue(self.check(roots, others))
            self.assertEqual(change_of(row_told(roots), row_told(others)), row_told(squares))
        for roots, others in (([2], [3]), ([5, 5, 2], [2, 2, 2]), ([5, 5], [4, 4]), ([2] * 6, [2] * 5 + [3])):
            self.assertFalse(self.check(roots, sorted(others, reverse=True)))

    def test_great(self):
        source = source_of(95)
        for size in range(1, 7):
            roots = sorted((byhand.great_fraction(source) for _ in range(size)), reverse=True)
            others = some_raised(source, roots)
            self.assertTrue(self.check(roots, others))
            self.check_counts(roots[:3], some_raised(source, roots[:3]))


class AllFactors(unittest.TestCase):
    def check(self, table, row, number):
        """The s by equations solved, and the counts with s less, just s and s more; the s."""
        arguments = (table_told(table), row_told(row), told(number))
        factor, counts = factor_for(*arguments), counts_along(*arguments)
        found = byhand.solution(byhand.less(table, number), row)
        if found is None:
            self.assertEqual(factor, (0, 1))
        elif byhand.dot(found, row) == 0:
            self.assertIsNone(factor)
        else:
            self.assertEqual(factor, told(-1 / byhand.dot(found, row)))
        middle = Fraction(0) if factor is None else read(factor)
        for told_so, steps in zip(counts, ((-LITTLE, -1, -1000), (0,), (LITTLE, 1, 1000))):
            for step in steps:
                changed = byhand.plus_row(table, row, middle + step)
                self.assertEqual(told_so, byhand.counts_by_squares(changed, number))
        self.assertEqual([[type(count) for count in triple] for triple in counts], [[int] * 3] * 3)
        if factor is None:
            self.assertEqual(counts, (root_counts(table_told(table), told(number)),) * 3)
        else:
            self.assertEqual(counts[1][1], counts[0][1] + 1)
            self.assertEqual(counts[2], (counts[0][0] + 1, counts[0][1], counts[0][2] - 1))
        return factor

    def test_some_rows(self):
        source = source_of(96)
        for table in other_tables(97, 4):
            row = [byhand.some_fraction(source, 2) for _ in table]
            for number in (Fraction(0), Fraction(1), Fraction(-5, 4)):
                with self.subTest(table=table, row=row, number=number):
                    self.check(table, row, number)

    def test_at_roots(self):
        source = source_of(98)
        kinds = {"none": 0, "nought": 0, "other": 0}
        for roots, table in planted_tables():
            for number in sorted(set(roots)):
                at = row_read(source.choice(rows_at(table_told(table), told(number))))
                some = [byhand.some_fraction(source, 2) for _ in table]
                # A row upright on all that is taken to the number times itself, where there are other roots.
                led = byhand.led(byhand.less(table, number), some)
                for row in (at, some, led, [one + other for one, other in zip(at, led)]):
                    with self.subTest(roots=roots, row=row, number=number):
                        factor = self.check(table, row, number)
                        kinds["none" if factor is None else "nought" if factor == (0, 1) else "other"] += 1
        self.assertGreater(min(kinds.values()), 20)

    def test_row_of_noughts_and_worth_of_nought(self):
        swap = [[Fraction(0), Fraction(1)], [Fraction(1), Fraction(0)]]
        nil, one = Fraction(0), Fraction(1)
        for table, row, number, expected in (
                (swap, [nil, nil], nil, None), (swap, [one, nil], nil, None), (swap, [nil, -one], nil, None),
                (swap, [one, one], nil, (-1, 2)), (swap, [one, -one], nil, (1, 2)), (swap, [one, nil], one, (0, 1)),
                (swap, [one, -one], one, (1, 1)), (swap, [one, one], one, (0, 1)), ([[nil]], [nil], nil, None),
                ([[nil]], [one], nil, (0, 1)), ([[one]], [one], nil, (-1, 1)), ([[one]], [nil], nil, None),
                ([[-one]], [Fraction(1, 3)], nil, (9, 1)), (byhand.along([0, 0, 1]), [nil, nil, one], nil, (-1, 1)),
                (byhand.along([0, 0, 1]), [nil, one, one], nil, (0, 1)), (byhand.along([0] * 5), [nil] * 5, nil, None)):
            self.assertEqual(self.check(table, row, number), expected)

    def test_no_fractions(self):
        source = source_of(99)
        for parts in ([GOLDEN, SILVER], [GOLDEN, [[1]], [[1]]], [SILVER, SILVER, [[2]]]):
            table = byhand.mixed(source, byhand.blocks(parts))
            for number in (0, 1, 2, Fraction(8, 5)):
                self.check(table, [byhand.some_fraction(source) for _ in table], Fraction(number))

    def test_all_s(self):
        # [19]: for each number on the way of a root there is just one s, other ones for other numbers.
        source = source_of(100)
        table = byhand.planted(source, [3, 1, -2])
        row = [Fraction(1), Fraction(2), Fraction(-1, 2)]
        for k in range(-12, 13):
            number = Fraction(k, 3)
            factor = self.check(table, row, number)
            if factor is not None:
                changed = table_told(byhand.plus_row(table, row, read(factor)))
                self.assertGreater(root_counts(changed, told(number))[1], 0)

    def test_stays_for_all(self):
        # A row that is taken to the number times itself, with the product 0 with the row, stays so.
        source = source_of(101)
        table = byhand.planted(source, [2, 2, 0, -1])
        one, other = (row_read(row) for row in rows_at(table_told(table), (2, 1)))
        for row in (one, other):
            self.assertEqual(factor_for(table_told(table), row_told(row), (2, 1)), (0, 1))
            self.assertGreater(min(counts[1] for counts in counts_along(table_told(table), row_told(row), (2, 1))), 0)

    def test_great(self):
        source = source_of(102)
        for table in great_tables():
            row = [byhand.great_fraction(source) for _ in table]
            if len(table) < 5:
                self.check(table, row, table[0][0])
                self.check(table, row, LITTLE)
            else:
                factor = factor_for(table_told(table), row_told(row), (0, 1))
                self.assertEqual(factor, told(-1 / byhand.dot(byhand.solution(table, row), row)))


if __name__ == "__main__":
    unittest.main()
