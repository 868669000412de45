"""[14] to [17]: corners, laced roots, rows between, arrows and their counts, squares of the row of a root."""

import unittest
from fractions import Fraction
from itertools import combinations, product

import byhand
from byhand import FIGURES, falling, read, row_read, row_told, source_of, table_read, table_told, told
from rootsabove.laced import arrow_counts, arrow_of, corner_of, is_laced, rows_between, unit_squares
from rootsabove.tables import is_table, polynomial, root_counts, rows_at
from samples import GOLDEN, SILVER, great_tables, other_tables, planted_tables

LITTLE = Fraction(1, FIGURES)


def laced_by_counts(roots, others):
    """At each number as many of the roots as of the others, up to as many more as they are, are from it on."""
    fewer = len(roots) - len(others)
    for number in set(roots) | set(others):
        one, other = sum(root >= number for root in roots), sum(root >= number for root in others)
        if not other <= one <= other + fewer:
            return False
    return True


def some_roots(source, size):
    return sorted((byhand.some_fraction(source, 4) for _ in range(size)), reverse=True)


def some_laced(source, roots):
    """Others, one fewer, each from one root to the next one, often at an end."""
    found = []
    for upper, lower in zip(roots, roots[1:]):
        share = source.choice([Fraction(0), Fraction(1), Fraction(1, 2), Fraction(source.randrange(1, 9), 9)])
        found.append(share * upper + (1 - share) * lower)
    return found


def great_roots(source, size):
    """Roots and others, one fewer, some of them alike, of 400 figures."""
    roots = sorted((byhand.great_fraction(source) for _ in range(size)), reverse=True)
    if size > 2:
        roots[1] = roots[0]
    return roots, some_laced(source, roots)


class Corners(unittest.TestCase):
    def test_corners(self):
        for table in list(other_tables(71, 3)) + list(great_tables()):
            size = len(table)
            for many in range(1, size + 1):
                for places in combinations(range(size), many):
                    found = corner_of(table_told(table), places)
                    self.assertEqual(found, table_told([[table[i][j] for j in places] for i in places]))
                    self.assertIs(is_table(found), True)
            self.assertEqual(corner_of(table_told(table), tuple(range(size))), table_told(table))

    def test_roots_are_laced(self):
        for roots, table in planted_tables():
            size = len(table)
            for many in range(1, size):
                for places in combinations(range(size), many):
                    corner = corner_of(table_told(table), places)
                    for number in sorted(set(roots)) + [table[0][0], Fraction(1, 2)]:
                        whole, part = root_counts(table_told(table), told(number)), root_counts(corner, told(number))
                        for above, other in ((whole[0], part[0]), (whole[2], part[2])):
                            self.assertTrue(other <= above <= other + size - many)

    def test_told_roots_of_corners(self):
        # Of roots along each corner has some of them.
        roots = [4, 2, 2, 0, -1]
        for many in range(1, 5):
            for places in combinations(range(5), many):
                self.assertIs(is_laced(row_told(roots), row_told([roots[place] for place in places])), True)


class Laced(unittest.TestCase):
    def check(self, roots, others):
        """Whether they are laced, and the rows between; whether they were."""
        expected = laced_by_counts(roots, others)
        pair = (row_told(roots), row_told(others))
        self.assertIs(is_laced(*pair), expected)
        rows = rows_between(*pair)
        if not expected:
            self.assertIsNone(rows)
            return False
        self.assertIs(type(rows), tuple)
        self.assertEqual([len(row) for row in rows], list(range(len(roots) - 1, len(others), -1)))
        chain = [roots] + [row_read(row) for row in rows] + [others]
        for one, other in zip(chain, chain[1:]):
            self.assertTrue(laced_by_counts(one, other))
            self.assertEqual(other, sorted(other, reverse=True))
            self.assertIs(is_laced(row_told(one), row_told(other)), True)
        for row in rows:
            self.assertTrue(byhand.is_row_of(row, len(row)))
        return True

    def test_small(self):
        found = {True: 0, False: 0}
        for size in range(2, 6):
            values = range(4 if size < 5 else 3)
            for roots in falling(values, size):
                for many in range(1, size):
                    for others in falling(values, many):
                        with self.subTest(roots=roots, others=others):
                            found[self.check(roots, others)] += 1
        self.assertGreater(min(found.values()), 500)

    def test_ends_and_just_beyond(self):
        source = source_of(72)
        for size in range(2, 7):
            for many in range(1, size):
                roots = sorted((byhand.some_fraction(source) for _ in range(size)), reverse=True)
                fewer = size - many
                for others, ends in ((roots[:many], 1), (roots[fewer:], -1)):
                    self.assertTrue(self.check(roots, others))
                    for index in range(many):
                        off = list(others)
                        off[index] += ends * LITTLE
                        if off == sorted(off, reverse=True):
                            self.assertFalse(self.check(roots, off))

    def test_six(self):
        source = source_of(73)
        found = {True: 0, False: 0}
        for _ in range(150):
            roots = some_roots(source, 6)
            others = roots
            while len(others) > 1:
                others = some_laced(source, others)
                self.assertTrue(self.check(roots, others))
                found[self.check(roots, some_roots(source, len(others)))] += 1
        self.assertGreater(min(found.values()), 5)

    def test_great(self):
        source = source_of(74)
        for size in range(2, 7):
            roots, others = great_roots(source, size)
            # Some of those laced twice over are laced, too.
            while others:
                self.assertTrue(self.check(roots, others))
                others[0] = roots[0] + LITTLE ** 3
                self.assertFalse(self.check(roots, others))
                others = some_laced(source, some_laced(source, roots))[:len(others) - 1]

    def test_rows_between_may_be_passed(self):
        rows = rows_between(row_told([5, 4, 3, 2, 1, 0]), row_told([2]))
        self.assertEqual(rows_between(row_told([5, 4, 3, 2, 1, 0]), rows[-1]), rows[:-1])
        self.assertEqual(rows_between(rows[0], row_told([2])), rows[1:])


class Arrows(unittest.TestCase):
    def check(self, roots, others):
        """The arrow of the roots, led back to them by its polynomial; whether there is one."""
        found = arrow_of(row_told(roots), row_told(others))
        if not laced_by_counts(roots, others):
            self.assertIsNone(found)
            return False
        self.assertIs(type(found), tuple)
        squares, last = found
        self.assertTrue(byhand.is_row_of(squares, len(others)) and byhand.is_told(last))
        numbers = row_read(squares)
        self.assertGreaterEqual(min(numbers), 0)
        self.assertEqual(byhand.tied_polynomial(others, numbers, read(last)), byhand.from_roots(roots))
        self.assertEqual(read(last), sum(roots) - sum(others))
        for index in range(1, len(others)):
            if others[index] == others[index - 1]:
                self.assertEqual(squares[index], (0, 1))
        return True

    def check_counts(self, roots, others):
        squares, last = arrow_of(row_told(roots), row_told(others))
        for number in sorted(set(roots) | set(others)):
            for step in (Fraction(0), LITTLE, -LITTLE):
                expected = byhand.counts_of_roots(roots, number + step)
                found = arrow_counts(row_told(others), squares, last, told(number + step))
                self.assertEqual(found, expected)

    def test_small(self):
        found = {True: 0, False: 0}
        for size in range(2, 6):
            values = range(4 if size < 5 else 3)
            for roots in falling(values, size):
                for others in falling(values, size - 1):
                    with self.subTest(roots=roots, others=others):
                        found[self.check(roots, others)] += 1
        self.assertGreater(min(found.values()), 100)

    def test_some_roots(self):
        source = source_of(75)
        for size in range(2, 7):
            for _ in range(12):
                roots = some_roots(source, size)
                others = some_laced(source, roots)
                with self.subTest(roots=roots, others=others):
                    self.assertTrue(self.check(roots, others))
                    self.check_counts(roots, others)
                    off = list(others)
                    off[0] = roots[0] + LITTLE
                    self.assertFalse(self.check(roots, off))

    def test_like_roots(self):
        for roots, others in (([2, 2], [2]), ([2] * 6, [2] * 5), ([3, 2, 2, 2, 1], [2] * 4), ([3, 2, 2, 2, 2], [2] * 4),
                              ([2, 2, 2, 2, 1], [2] * 4), ([5, 5, 3, 3, 1, 1], [5, 4, 3, 2, 1]),
                              ([5, 5, 3, 3, 1, 1], [5, 3, 3, 1, 1]), ([5, 5, 5, 1, 1, 1], [5, 5, 3, 1, 1])):
            with self.subTest(roots=roots, others=others):
                self.assertTrue(self.check(roots, others))
                self.check_counts(roots, others)

    def test_great(self):
        source = source_of(76)
        for size in range(2, 7):
            roots, others = great_roots(source, size)
            self.assertTrue(self.check(roots, others))
            self.check_counts(roots[:4], others[:3])
        roots = [Fraction(FIGURES) + LITTLE, Fraction(FIGURES), LITTLE, Fraction(0), -LITTLE]
        for others in (roots[1:], roots[:-1], [Fraction(FIGURES), Fraction(1), LITTLE / 2, -LITTLE / 3]):
            self.assertTrue(self.check(roots, others))
            self.check_counts(roots, others)


class ArrowCounts(unittest.TestCase):
    def check(self, along, squares, last, number):
        found = arrow_counts(row_told(along), row_told(squares), told(last), told(number))
        numbers = byhand.tied_polynomial(along, squares, last)
        self.assertEqual(found, byhand.counts_of_polynomial(numbers, number))
        self.assertEqual([type(count) for count in found], [int] * 3)
        return found

    def test_small(self):
        values = (Fraction(0), Fraction(1), Fraction(-2))
        for size in (1, 2, 3):
            for along in product(values[:3 if size < 3 else 2], repeat=size):
                for squares in product((Fraction(0), Fraction(1), Fraction(4, 3)), repeat=size):
                    for last, number in product(values[:2], values):
                        with self.subTest(along=along, squares=squares, last=last, number=number):
                            self.check(along, squares, last, number)

    def test_last_such_that_the_number_is_a_root(self):
        source = source_of(77)
        for size in range(1, 6):
            for _ in range(10):
                along = [byhand.some_fraction(source, 3) for _ in range(size)]
                squares = [abs(byhand.some_fraction(source, 2)) for _ in range(size)]
                number = byhand.some_fraction(source, 3)
                if number not in along:
                    last = number + sum(square / (one - number) for one, square in zip(along, squares))
                    self.assertEqual(self.check(along, squares, last, number)[1], 1)
                    for step, side in ((LITTLE, 0), (-LITTLE, 2)):
                        counts = self.check(along, squares, last + step, number)
                        self.assertEqual(counts[1], 0)
                        self.assertEqual(counts[side], self.check(along, squares, last, number)[side] + 1)

    def test_squares_of_nought(self):
        for along, squares, last, number, expected in (
                ([2], [0], 2, 2, (0, 2, 0)), ([2], [0], 3, 2, (1, 1, 0)), ([2], [1], 3, 2, (1, 0, 1)),
                ([2, 2], [0, 0], 1, 2, (0, 2, 1)), ([2, 2], [0, 1], 1, 2, (1, 1, 1)), ([2, 2], [1, 1], 1, 2, (1, 1, 1)),
                ([2, 2, 3], [0, 0, 1], 1, 2, (1, 2, 1)), ([2, 2, 3], [0, 0, 1], 3, 2, (1, 3, 0)),
                ([2] * 5, [0] * 5, 2, 2, (0, 6, 0)), ([2] * 5, [0, 0, 1, 0, 0], 9, 2, (1, 4, 1))):
            self.assertEqual(self.check([Fraction(one) for one in along], squares, Fraction(last), number), expected)

    def test_signs_of_the_numbers_do_not_matter(self):
        source = source_of(78)
        for size in range(1, 5):
            along = [byhand.some_fraction(source, 3) for _ in range(size)]
            beside = [byhand.some_fraction(source, 3) for _ in range(size)]
            for signs in product((1, -1), repeat=size):
                table = [row + [Fraction(0)] for row in byhand.along(along)] + [[Fraction(0)] * size + [Fraction(1, 2)]]
                for i, sign in enumerate(signs):
                    table[i][size] = table[size][i] = sign * beside[i]
                for number in along + [Fraction(0), Fraction(1)]:
                    found = arrow_counts(row_told(along), row_told([one * one for one in beside]), (1, 2), told(number))
                    self.assertEqual(found, root_counts(table_told(table), told(number)))

    def test_great(self):
        source = source_of(79)
        for size in (1, 3, 5):
            along = [byhand.great_fraction(source) for _ in range(size)]
            squares = [abs(byhand.great_fraction(source)) for _ in range(size)]
            squares[0] = Fraction(0)
            last = byhand.great_fraction(source)
            for number in along + [last, LITTLE]:
                self.check(along, squares, last, number)


class UnitSquares(unittest.TestCase):
    def check(self, table, number, is_root):
        """The squares beside those of a row that the table takes to the number times itself."""
        found = unit_squares(table_told(table), told(number))
        rows = rows_at(table_told(table), told(number))
        self.assertEqual(len(rows) == 1, is_root)
        if not is_root:
            self.assertIsNone(found)
            return
        row = row_read(rows[0])
        self.assertEqual(byhand.led(table, row), [number * value for value in row])
        expected = [value * value / byhand.dot(row, row) for value in row]
        self.assertEqual(found, row_told(expected))
        self.assertEqual(sum(row_read(found)), 1)

    def test_planted(self):
        for roots, table in planted_tables():
            for number in sorted(set(roots)) + [Fraction(10), Fraction(1, 99)]:
                with self.subTest(roots=roots, number=number):
                    self.check(table, Fraction(number), roots.count(number) == 1)

    def test_beside_roots_that_are_no_fractions(self):
        source = source_of(80)
        for parts, number, is_root in (([GOLDEN, [[3]]], 3, True), ([GOLDEN, SILVER, [[1]]], 1, True),
                                       ([GOLDEN, [[0]], [[0]]], 0, False), ([GOLDEN, SILVER], 1, False),
                                       ([GOLDEN, GOLDEN, [[2]]], 2, True)):
            for table in (byhand.blocks(parts), byhand.mixed(source, byhand.blocks(parts))):
                self.check(table, Fraction(number), is_root)

    def test_by_corners(self):
        # The worth of the polynomial of the corner over that of the derivative, by the words of [17].
        for roots, table in planted_tables():
            size = len(table)
            numbers = row_read(polynomial(table_told(table)))
            for number in [root for root in roots if roots.count(root) == 1 and size > 1]:
                slope = sum(k * value * number ** (k - 1) for k, value in enumerate(numbers) if k)
                found = unit_squares(table_told(table), told(number))
                for i in range(size):
                    corner = corner_of(table_told(table), tuple(j for j in range(size) if j != i))
                    worth = byhand.determinant(byhand.less(table_read(corner), number)) * (-1) ** (size - 1)
                    self.assertEqual(read(found[i]), worth / slope)

    def test_one_row(self):
        self.assertEqual(unit_squares((((-7, 3),),), (-7, 3)), ((1, 1),))
        self.assertIsNone(unit_squares((((-7, 3),),), (7, 3)))

    def test_great(self):
        source = source_of(81)
        roots = [Fraction(FIGURES), Fraction(FIGURES) - LITTLE, LITTLE, Fraction(0), Fraction(0)]
        table = byhand.planted(source, roots)
        for number in roots:
            self.check(table, number, roots.count(number) == 1)
        for table in great_tables():
            self.assertIs(unit_squares(table_told(table), told(table[0][0])) is None, len(table) > 1)


if __name__ == "__main__":
    unittest.main()
