"""[6], [7], [8]: counts, squares, the polynomial, corner minors, rows at a root, roots near, like roots."""

import unittest
from fractions import Fraction
from itertools import combinations
from math import isqrt

import byhand
from byhand import FIGURES, read, row_read, source_of, table_told, told
from rootsabove.tables import (
    corner_minors, is_table, likes, polynomial, root_counts, root_near, rows_at, squares_of,
)
from samples import GOLDEN, SILVER, great_tables, other_tables, planted_tables


class Tables(unittest.TestCase):
    def test_is_table(self):
        for _, table in planted_tables():
            self.assertIs(is_table(table_told(table)), True)
        for table in list(other_tables()) + list(great_tables()):
            self.assertIs(is_table(table_told(table)), True)

    def test_one_number_off_is_no_table(self):
        table = byhand.planted(source_of(4), [3, 2, 1, 0, -1])
        for i in range(5):
            for j in range(5):
                if i != j:
                    other = [list(row) for row in table]
                    other[i][j] += Fraction(1, FIGURES)
                    self.assertIs(is_table(table_told(other)), False)


class Counts(unittest.TestCase):
    def check(self, table, number):
        counts = root_counts(table_told(table), told(number))
        self.assertEqual(counts, byhand.counts_by_signs(table, number))
        self.assertEqual(counts, byhand.counts_by_squares(table, number))
        self.assertEqual([type(count) for count in counts], [int] * 3)
        return counts

    def test_planted(self):
        for roots, table in planted_tables():
            for number in sorted(set(roots)):
                for step in (0, Fraction(1, 10 ** 9), Fraction(-1, 10 ** 9), 7, -7):
                    with self.subTest(roots=roots, number=number, step=step):
                        counts = root_counts(table_told(table), told(number + step))
                        self.assertEqual(counts, byhand.counts_of_roots(roots, number + step))

    def test_other_ways(self):
        for table in other_tables():
            for number in (Fraction(0), Fraction(1), Fraction(-1), Fraction(7, 3), Fraction(-5, 4)):
                with self.subTest(table=table, number=number):
                    self.check(table, number)

    def test_great(self):
        for table in great_tables():
            for number in (table[0][0], Fraction(0), Fraction(FIGURES), Fraction(1, FIGURES)):
                self.check(table, number)

    def test_great_roots(self):
        roots = [Fraction(FIGURES), Fraction(FIGURES), Fraction(FIGURES - 1), Fraction(1, FIGURES), Fraction(-FIGURES)]
        table = table_told(byhand.planted(source_of(5), roots))
        for number, counts in ((FIGURES, (0, 2, 3)), (FIGURES - 1, (2, 1, 2)), (0, (4, 0, 1)),
                               (Fraction(1, FIGURES), (3, 1, 1)), (-FIGURES, (4, 1, 0)),
                               (FIGURES - Fraction(1, FIGURES), (2, 0, 3))):
            self.assertEqual(root_counts(table, told(number)), counts)


class Squares(unittest.TestCase):
    def check(self, table, number):
        size = len(table)
        squares = squares_of(table_told(table), told(number))
        self.assertIs(type(squares), tuple)
        self.assertEqual(len(squares), size)
        for square in squares:
            self.assertIs(type(square), tuple)
            self.assertEqual(len(square), 2)
            self.assertTrue(byhand.is_told(square[0]))
            self.assertTrue(byhand.is_row_of(square[1], size))
        shares = [read(share) for share, _ in squares]
        rows = [row_read(row) for _, row in squares]
        self.assertEqual(byhand.rank(rows), size)
        added = [[sum((share * row[i] * row[j] for share, row in zip(shares, rows)), Fraction(0))
                  for j in range(size)] for i in range(size)]
        self.assertEqual(added, byhand.less(table, number))
        counts = (sum(share > 0 for share in shares), shares.count(0), sum(share < 0 for share in shares))
        self.assertEqual(counts, root_counts(table_told(table), told(number)))

    def test_planted(self):
        for roots, table in planted_tables():
            for number in sorted(set(roots)) + [Fraction(1, 2)]:
                with self.subTest(roots=roots, number=number):
                    self.check(table, number)

    def test_others(self):
        for table in other_tables():
            for number in (Fraction(0), Fraction(1), Fraction(-3, 2)):
                with self.subTest(table=table, number=number):
                    self.check(table, number)

    def test_great(self):
        for table in great_tables():
            self.check(table, Fraction(0))
            self.check(table, table[0][0])


class Polynomials(unittest.TestCase):
    def test_planted(self):
        for roots, table in planted_tables():
            with self.subTest(roots=roots):
                self.assertEqual(polynomial(table_told(table)), byhand.row_told(byhand.from_roots(roots)))

    def test_others(self):
        for table in list(other_tables()) + list(great_tables()):
            found = polynomial(table_told(table))
            self.assertEqual(found, byhand.row_told(byhand.polynomial(table)))
            self.assertEqual(found[-1], (1, 1))
            self.assertTrue(byhand.is_row_of(found, len(table) + 1))


class CornerMinors(unittest.TestCase):
    def check(self, table, number):
        size = len(table)
        form = byhand.less(table, number)
        minors = [byhand.determinant([row[:k] for row in form[:k]]) for k in range(1, size + 1)]
        found = corner_minors(table_told(table), told(number))
        self.assertEqual(found, byhand.row_told(minors))
        if 0 not in minors:
            # Jacobi.
            self.assertEqual(byhand.changes([1] + minors), root_counts(table_told(table), told(number))[2])

    def test_minors(self):
        for table in [table for _, table in planted_tables()] + list(other_tables()):
            for number in (Fraction(0), Fraction(1), Fraction(-2, 3), table[0][0]):
                with self.subTest(table=table, number=number):
                    self.check(table, number)

    def test_great(self):
        for table in great_tables():
            self.check(table, Fraction(0))
            self.check(table, table[-1][-1])


class RowsAt(unittest.TestCase):
    def check(self, table, number, many):
        rows = rows_at(table_told(table), told(number))
        self.assertIs(type(rows), tuple)
        self.assertEqual(len(rows), many)
        for row in rows:
            self.assertTrue(byhand.is_row_of(row, len(table)))
            told_row = row_read(row)
            self.assertEqual(byhand.led(table, told_row), [number * value for value in told_row])
        self.assertEqual(byhand.rank([row_read(row) for row in rows]), many)

    def test_planted(self):
        for roots, table in planted_tables():
            for number in sorted(set(roots)):
                with self.subTest(roots=roots, number=number):
                    self.check(table, Fraction(number), roots.count(number))
                    self.check(table, number + Fraction(1, 100), roots.count(number + Fraction(1, 100)))

    def test_none(self):
        for number in (Fraction(1), Fraction(8, 5), Fraction(-1, 2)):
            self.assertEqual(rows_at(table_told(GOLDEN), told(number)), ())

    def test_beside_roots_that_are_no_fractions(self):
        source = source_of(6)
        table = byhand.mixed(source, byhand.blocks([GOLDEN, [[3]], [[3]]]))
        self.check(table, Fraction(3), 2)
        self.check(table, Fraction(1), 0)

    def test_great(self):
        roots = [Fraction(FIGURES, 7), Fraction(FIGURES, 7), Fraction(1, FIGURES), Fraction(0), Fraction(0)]
        table = byhand.planted(source_of(7), roots)
        for number in roots:
            self.check(table, number, 2 - (number == roots[2]))
        self.check(table, Fraction(FIGURES), 0)


def near_of_two(table, many):
    """Both roots of a table of two rows of whole numbers near, by whole square roots."""
    (a, b), (_, d) = table
    square = ((a - d) ** 2 + 4 * b ** 2) * many ** 2
    side = isqrt(square)
    just = side * side == square
    found = []
    for sign in (1, -1):
        # (many (a + d) + sign * side) / 2 is just below, or is, many times the root; side is cut off.
        if sign > 0 or just:
            double = many * (a + d) + sign * side
        else:
            double = many * (a + d) - side - 1
        found.append((double // 2, just and double % 2 == 0))
    return found


class RootNear(unittest.TestCase):
    def test_planted(self):
        for roots, table in planted_tables():
            roots = sorted(roots, reverse=True)
            for index, root in enumerate(roots):
                for many in (1, 2, 7, 12, 999, 1000):
                    with self.subTest(roots=roots, index=index, many=many):
                        found = root_near(table_told(table), index, many)
                        self.assertEqual(found, byhand.near(Fraction(root), many))
                        self.assertEqual([type(part) for part in found], [int, bool])

    def test_no_fractions(self):
        source = source_of(8)
        for size in (3, 30, FIGURES):
            for _ in range(8):
                a, b, d = (source.randrange(-size, size + 1) for _ in range(3))
                table = ((a, b), (b, d))
                for many in (1, 10, 1000):
                    with self.subTest(table=table, many=many):
                        self.assertEqual([root_near(table_told(table), index, many) for index in (0, 1)],
                                         near_of_two(table, many))

    def test_told_by_counts(self):
        for table in other_tables(9, 4):
            form = table_told(table)
            for index in range(len(table)):
                for many in (1, 6, 1000):
                    k, is_just = root_near(form, index, many)
                    above, at_it, _ = byhand.counts_by_squares(table, Fraction(k, many))
                    self.assertGreater(above + at_it, index)
                    self.assertIs(is_just, above <= index)
                    above, at_it, _ = byhand.counts_by_squares(table, Fraction(k + 1, many))
                    self.assertLessEqual(above + at_it, index)

    def test_great(self):
        for table in great_tables():
            form = table_told(table)
            for index in range(len(table)):
                for many in (1, 1000):
                    k, _ = root_near(form, index, many)
                    above, at_it, _ = byhand.counts_by_squares(table, Fraction(k, many))
                    self.assertGreater(above + at_it, index)
                    above, at_it, _ = byhand.counts_by_squares(table, Fraction(k + 1, many))
                    self.assertLessEqual(above + at_it, index)

    def test_great_and_just(self):
        roots = [Fraction(FIGURES) + Fraction(1, 8), Fraction(FIGURES), Fraction(1, FIGURES), Fraction(-1, FIGURES),
                 Fraction(-FIGURES)]
        table = table_told(byhand.planted(source_of(10), roots))
        for many in (1, 8, 1000):
            for index, root in enumerate(roots):
                self.assertEqual(root_near(table, index, many), byhand.near(root, many))

    def test_next_to_a_step(self):
        little = Fraction(1, FIGURES)
        for root, near in ((5 - little, (4, False)), (Fraction(5), (5, True)), (5 + little, (5, False)),
                           (-little, (-1, False)), (little, (0, False)), (Fraction(0), (0, True))):
            table = table_told(byhand.along([root, 9, -9]))
            self.assertEqual(root_near(table, 1, 1), near)


class Likes(unittest.TestCase):
    def test_planted(self):
        for roots, table in planted_tables():
            expected = tuple(roots.count(root) for root in sorted(set(roots), reverse=True))
            with self.subTest(roots=roots):
                self.assertEqual(likes(table_told(table)), expected)

    def test_each_way_to_come(self):
        source = source_of(11)
        for size in range(1, 6):
            for cuts in range(size):
                for ends in combinations(range(1, size), cuts):
                    lots = [end - start for start, end in zip((0,) + ends, ends + (size,))]
                    for step in (Fraction(1), Fraction(1, 10 ** 30)):
                        roots = [1 - step * place for place, many in enumerate(lots) for _ in range(many)]
                        table = byhand.planted(source, source.sample(roots, size))
                        with self.subTest(lots=lots, step=step):
                            self.assertEqual(likes(table_told(table)), tuple(lots))

    def test_no_fractions(self):
        # golden has the roots 1.6 and - 0.6, silver 2.4 and - 0.4, each to some figures.
        source = source_of(12)
        for parts, expected in (
                ([GOLDEN], (1, 1)), ([GOLDEN, GOLDEN], (2, 2)), ([GOLDEN, SILVER], (1, 1, 1, 1)),
                ([GOLDEN, GOLDEN, [[0]]], (2, 1, 2)), ([GOLDEN, GOLDEN, [[2]]], (1, 2, 2)),
                ([GOLDEN, GOLDEN, [[-1]]], (2, 2, 1)), ([GOLDEN, [[1]], [[1]]], (1, 2, 1)),
                ([GOLDEN, [[2]], [[2]], [[2]]], (3, 1, 1)), ([GOLDEN, [[-3]], [[-3]], [[1]]], (1, 1, 1, 2)),
                ([SILVER, GOLDEN, [[2]]], (1, 1, 1, 1, 1)),
                ([GOLDEN, GOLDEN, [[Fraction(isqrt(5 * 10 ** 80) + 10 ** 40, 2 * 10 ** 40)]]], (2, 1, 2)),
                ([GOLDEN, GOLDEN, [[Fraction(isqrt(5 * 10 ** 80) + 10 ** 40 + 1, 2 * 10 ** 40)]]], (1, 2, 2))):
            with self.subTest(expected=expected):
                table = byhand.mixed(source, byhand.blocks(parts))
                self.assertEqual(likes(table_told(table)), expected)

    def test_whole_numbers_close_together(self):
        # steep has the roots many and a little more, and that little below 0.
        for many in (1, 2, 10, 1000, FIGURES):
            steep = [[many, 1], [1, 0]]
            for parts, expected in (
                    ([steep, steep, [[many]]], (2, 1, 2)), ([steep, steep, [[0]]], (2, 1, 2)),
                    ([steep, [[many]], [[many]]], (1, 2, 1)), ([steep, [[0]], [[0]]], (1, 2, 1)),
                    ([steep, [[0]], [[0]], [[many]]], (1, 1, 2, 1)), ([steep, [[0]], [[many]], [[many]]], (1, 2, 1, 1)),
                    ([steep, steep], (2, 2)), ([steep, steep, [[many + 1]]], (1, 2, 2)),
                    ([steep, steep, [[-1]]], (2, 2, 1))):
                with self.subTest(many=min(many, 9999), expected=expected):
                    self.assertEqual(likes(table_told(byhand.blocks(parts))), expected)

    def test_great(self):
        source = source_of(13)
        near, far = Fraction(1, FIGURES), Fraction(FIGURES)
        for roots, expected in (([far, far, far - near], (2, 1)), ([far + near, far, far], (1, 2)),
                                ([far, near, near, 0, -far], (1, 2, 1, 1)), ([far] * 5, (5,)),
                                ([near, near, 0, 0], (2, 2))):
            with self.subTest(expected=expected):
                self.assertEqual(likes(table_told(byhand.planted(source, roots))), expected)


if __name__ == "__main__":
    unittest.main()
