"""[23], [24]: tables small by a fraction, ABOVE near by, distances, tables within bounds."""

import unittest
from fractions import Fraction
from itertools import product

import byhand
from byhand import FIGURES, read, source_of, table_read, table_told, told
from rootsabove.nearby import above_near, distance_near, first_near, high_table, last_near, low_table, near_table
from rootsabove.tables import is_table, root_counts
from samples import GOLDEN, SILVER, great_tables, other_tables, planted_tables

LITTLE = Fraction(1, FIGURES)
SIZES = (Fraction(0), Fraction(1), Fraction(1, 3), Fraction(5, 2), Fraction(50))


def is_small(table, size):
    """All roots from - size to size, by the words of [23]: neither size - E nor size + E has one below 0."""
    opposite = [[-number for number in row] for row in table]
    return all(byhand.counts_by_squares(form, -size)[2] == 0 for form in (table, opposite))


def some_small(source, size, by):
    """A table with roots from - by to by."""
    roots = [by * source.choice([-1, 1, Fraction(source.randrange(-7, 8), 7)]) for _ in range(size)]
    return byhand.planted(source, roots)


class NearTables(unittest.TestCase):
    def check(self, table, number, size, expected=None):
        """The ends of ABOVE, and a table for each number from the one to the other; the ends."""
        form, at, by = table_told(table), told(number), told(size)
        ends = above_near(form, at, by)
        self.assertIs(type(ends), tuple)
        if expected is None:
            expected = (byhand.counts_by_squares(table, number + size)[0],
                        byhand.counts_by_squares(table, number - size)[0])
        self.assertEqual(ends, expected)
        for above in range(len(table) + 1):
            found = near_table(form, at, by, above)
            if not ends[0] <= above <= ends[1]:
                self.assertIsNone(found)
                continue
            self.assertIs(is_table(found), True)
            self.assertEqual(len(found), len(table))
            off = table_read(found)
            self.assertTrue(is_small(off, size))
            self.assertEqual(byhand.counts_by_squares(byhand.added(table, off), number)[0], above)
        return ends

    def test_planted(self):
        for roots, table in planted_tables():
            for number in sorted(set(roots)) + [Fraction(1, 2)]:
                for size in SIZES[:4]:
                    with self.subTest(roots=roots, number=number, size=size):
                        self.check(table, Fraction(number), size, (sum(root > number + size for root in roots),
                                                                   sum(root > number - size for root in roots)))

    def test_others(self):
        for table in other_tables(121, 3):
            for number, size in product((Fraction(0), Fraction(-5, 4)), SIZES):
                with self.subTest(table=table, number=number, size=size):
                    self.check(table, number, size)

    def test_size_just_enough_and_just_not(self):
        # 3 and 1 beside 2: with just 1 off 3 falls to 2, which is not above it; 1 rises to 2, which is not, either.
        source = source_of(122)
        table = byhand.planted(source, [3, 1])
        for size, ends in ((1 - LITTLE, (1, 1)), (Fraction(1), (0, 1)), (1 + LITTLE, (0, 2))):
            self.assertEqual(self.check(table, Fraction(2), size), ends)

    def test_size_of_nought(self):
        for _, table in planted_tables():
            form, size = table_told(table), len(table)
            above = root_counts(form, (1, 2))[0]
            self.assertEqual(above_near(form, (1, 2), (0, 1)), (above, above))
            self.assertEqual(near_table(form, (1, 2), (0, 1), above), table_told(byhand.along([0] * size)))

    def test_all_small_tables(self):
        source = source_of(123)
        for table in other_tables(124, 2):
            for size in (Fraction(1), Fraction(1, 3)):
                least, most = above_near(table_told(table), (0, 1), told(size))
                for _ in range(5):
                    off = some_small(source, len(table), size)
                    self.assertTrue(is_small(off, size))
                    above = byhand.counts_by_squares(byhand.added(table, off), 0)[0]
                    self.assertTrue(least <= above <= most)

    def test_great(self):
        for table in great_tables():
            for size in (abs(table[0][-1]), LITTLE, Fraction(0)):
                self.check(table, table[0][0], size)
        roots = [Fraction(FIGURES), Fraction(FIGURES) - LITTLE, Fraction(0), -LITTLE]
        table = byhand.planted(source_of(125), roots)
        for number, size, ends in ((Fraction(FIGURES), LITTLE, (0, 1)), (Fraction(FIGURES), 2 * LITTLE, (0, 2)),
                                   (Fraction(0), LITTLE, (2, 3)), (Fraction(0), Fraction(FIGURES), (0, 4))):
            self.assertEqual(self.check(table, number, size), ends)


class Distances(unittest.TestCase):
    def distance(self, roots, number, above):
        roots = sorted(roots, reverse=True)
        now = sum(root > number for root in roots)
        if above > now:
            return number - roots[above - 1]
        return roots[above] - number if above < now else Fraction(0)

    def test_planted(self):
        for roots, table in planted_tables():
            for number in sorted(set(roots)) + [Fraction(1, 2), Fraction(-7, 3)]:
                for above in range(len(roots) + 1):
                    distance = self.distance(roots, Fraction(number), above)
                    self.assertGreaterEqual(distance, 0)
                    for many in (1, 7, 1000):
                        with self.subTest(roots=roots, number=number, above=above, many=many):
                            found = distance_near(table_told(table), told(number), above, many)
                            self.assertEqual(found, byhand.near(distance, many))
                            self.assertEqual([type(part) for part in found], [int, bool])

    def test_tables_near_by(self):
        # A size below the distance lets none; for fewer above just the distance does, for more each greater size.
        for roots, table in planted_tables():
            form, number = table_told(table), Fraction(1, 2)
            now = sum(root > number for root in roots)
            for above in range(len(roots) + 1):
                distance = self.distance(roots, number, above)
                for size, lets in ((distance, above <= now), (distance + LITTLE, True), (distance - LITTLE, False)):
                    if size >= 0:
                        found = near_table(form, told(number), told(size), above)
                        self.assertIs(found is not None, lets)

    def test_no_fractions(self):
        # golden has the roots 1.618.. and - 0.618.., silver 2.414.. and - 0.414..
        for table, number, above, many, expected in (
                (SILVER, 0, 2, 10, (4, False)), (SILVER, 0, 0, 10, (24, False)), (SILVER, 0, 1, 10, (0, True)),
                (GOLDEN, 0, 2, 1000, (618, False)), (GOLDEN, 0, 0, 1000, (1618, False)), (GOLDEN, 2, 1, 100, (38, False)),
                (GOLDEN, 2, 2, 100, (261, False)), (GOLDEN, -1, 1, 100, (38, False)), (GOLDEN, -1, 0, 1, (2, False))):
            found = distance_near(table_told(table), told(number), above, many)
            self.assertEqual(found, expected)

    def test_told_by_sizes(self):
        # k / many lets no more than what is just there, (k + 1) / many and more does.
        for table in other_tables(126, 2):
            form = table_told(table)
            for number in (Fraction(0), Fraction(-5, 4)):
                now = root_counts(form, told(number))[0]
                for above in range(len(table) + 1):
                    k, is_just = distance_near(form, told(number), above, 6)
                    self.assertIsNotNone(near_table(form, told(number), told(Fraction(k + 1, 6)), above))
                    at = near_table(form, told(number), told(Fraction(k, 6)), above)
                    self.assertIs(at is not None, above == now or is_just and above < now)
                    below = Fraction(k, 6) - LITTLE
                    if below >= 0:
                        self.assertIsNone(near_table(form, told(number), told(below), above))

    def test_great(self):
        roots = [Fraction(FIGURES), Fraction(1, 8), Fraction(0), -LITTLE]
        table = byhand.planted(source_of(127), roots)
        for number in (Fraction(0), Fraction(1, 4), Fraction(FIGURES) + LITTLE, LITTLE):
            for above in range(5):
                expected = byhand.near(self.distance(roots, number, above), 1000)
                self.assertEqual(distance_near(table_told(table), told(number), above, 1000), expected)
        for table in great_tables():
            form, size = table_told(table), len(table)
            for above in (0, size):
                k, _ = distance_near(form, told(table[0][0]), above, 1000)
                now = root_counts(form, told(table[0][0]))[0]
                if above != now:
                    self.assertIsNotNone(near_table(form, told(table[0][0]), told(Fraction(k + 1, 1000)), above))
                    if k > 0:
                        self.assertIsNone(near_table(form, told(table[0][0]), told(Fraction(k - 1, 1000)), above))


def signed(table, bounds):
    """All tables with the bounds put on by signs, each number for itself."""
    size = len(table)
    places = [(i, j) for i in range(size) for j in range(i + 1)]
    for signs in product((1, -1), repeat=len(places)):
        found = [list(row) for row in table]
        for (i, j), sign in zip(places, signs):
            found[i][j] += sign * bounds[i][j]
            if i != j:
                found[j][i] = found[i][j]
        yield found


def some_bounds(source, size, most=2):
    return [[abs(number) for number in row] for row in byhand.some_table(source, size, most)]


def some_within(source, table, bounds):
    size = len(table)
    found = [list(row) for row in table]
    for i in range(size):
        for j in range(i + 1):
            found[i][j] += bounds[i][j] * source.choice([1, -1, 0, Fraction(source.randrange(-5, 6), 5)])
            found[j][i] = found[i][j]
    return found


class Bounds(unittest.TestCase):
    def check(self, table, bounds, many):
        """The least last and the greatest first root near, beside all tables with the bounds put on by signs."""
        form, loose = table_told(table), table_told(bounds)
        forms = list(signed(table, bounds))
        for find, side, sign in ((last_near, 2, 1), (first_near, 0, -1)):
            k, is_just = find(form, loose, many)
            self.assertEqual((type(k), type(is_just)), (int, bool))
            # Of the last root the number itself and what is below it is told, of the first one what is above.
            at = [byhand.counts_by_squares(one, Fraction(k, many)) for one in forms]
            after = [byhand.counts_by_squares(one, Fraction(k + 1, many)) for one in forms]
            if sign > 0:
                self.assertTrue(all(counts[2] == 0 for counts in at))
                self.assertTrue(any(counts[2] > 0 for counts in after))
                self.assertIs(is_just, any(counts[1] > 0 for counts in at))
            else:
                self.assertTrue(all(counts[0] + counts[1] == 0 for counts in after))
                self.assertTrue(any(counts[0] + counts[1] > 0 for counts in at))
                self.assertIs(is_just, all(counts[0] == 0 for counts in at))
            for number in (Fraction(k - 1, many), Fraction(k, many), Fraction(k + 1, many)):
                self.check_tables(table, bounds, forms, number)

    def check_tables(self, table, bounds, forms, number):
        for find, side in ((low_table, 2), (high_table, 0)):
            found = find(table_told(table), table_told(bounds), told(number))
            if found is None:
                self.assertTrue(all(byhand.counts_by_squares(one, number)[side] == 0 for one in forms))
                continue
            self.assertIs(is_table(found), True)
            read_so = table_read(found)
            for one, other, bound in zip(read_so, table, bounds):
                self.assertTrue(all(abs(a - b) <= most for a, b, most in zip(one, other, bound)))
            self.assertGreater(byhand.counts_by_squares(read_so, number)[side], 0)

    def test_some_bounds(self):
        source = source_of(128)
        for size, times in ((1, 6), (2, 8), (3, 6), (4, 1)):
            for turn in range(times):
                table, bounds = byhand.some_table(source, size), some_bounds(source, size)
                with self.subTest(table=table, bounds=bounds):
                    self.check(table, bounds, (1, 10, 1000)[turn % 3])

    def test_just(self):
        pair = [[Fraction(2), Fraction(1)], [Fraction(1), Fraction(2)]]
        for bounds, last, first in (([[0, 1], [1, 0]], (0, True), (4, True)), ([[1, 0], [0, 1]], (0, True), (4, True)),
                                    ([[1, 1], [1, 1]], (-1, True), (5, True)), ([[0, 0], [0, 0]], (1, True), (3, True)),
                                    ([[1, 0], [0, 0]], (0, False), (3, False)), ([[0, 2], [2, 0]], (-1, True), (5, True))):
            bounds = [[Fraction(number) for number in row] for row in bounds]
            self.assertEqual(last_near(table_told(pair), table_told(bounds), 1), last)
            self.assertEqual(first_near(table_told(pair), table_told(bounds), 1), first)
            self.check(pair, bounds, 1)

    def test_bounds_of_nought(self):
        for roots, table in planted_tables():
            form, nothing = table_told(table), table_told(byhand.along([0] * len(table)))
            for many in (1, 1000):
                self.assertEqual(last_near(form, nothing, many), byhand.near(Fraction(min(roots)), many))
                self.assertEqual(first_near(form, nothing, many), byhand.near(Fraction(max(roots)), many))
            self.assertIsNone(low_table(form, nothing, told(min(roots))))
            self.assertEqual(low_table(form, nothing, told(min(roots) + LITTLE)), form)
            self.assertIsNone(high_table(form, nothing, told(max(roots))))
            self.assertEqual(high_table(form, nothing, told(max(roots) - LITTLE)), form)

    def test_all_tables_within(self):
        source = source_of(129)
        for size in range(1, 6):
            for _ in range(4):
                table, bounds = byhand.some_table(source, size), some_bounds(source, size)
                last, _ = last_near(table_told(table), table_told(bounds), 1000)
                first, _ = first_near(table_told(table), table_told(bounds), 1000)
                for _ in range(20):
                    one = some_within(source, table, bounds)
                    self.assertEqual(byhand.counts_by_squares(one, Fraction(last, 1000))[2], 0)
                    above, at, _ = byhand.counts_by_squares(one, Fraction(first + 1, 1000))
                    self.assertEqual(above + at, 0)

    def test_of_five(self):
        # Found by the tables themselves: one has such a root, and the next number lets none.
        source = source_of(130)
        for table in (byhand.some_table(source, 5), byhand.planted(source, [3, 1, 0, -1, -1])):
            bounds = some_bounds(source, 5)
            form, loose = table_told(table), table_told(bounds)
            last, is_just = last_near(form, loose, 10)
            low = low_table(form, loose, told(Fraction(last + 1, 10)))
            self.assertGreater(byhand.counts_by_squares(table_read(low), Fraction(last + 1, 10))[2], 0)
            self.assertIsNone(low_table(form, loose, told(Fraction(last, 10))))
            first, is_just = first_near(form, loose, 10)
            high = high_table(form, loose, told(Fraction(first, 10) - LITTLE))
            self.assertGreater(byhand.counts_by_squares(table_read(high), Fraction(first, 10) - LITTLE)[0], 0)
            self.assertIsNone(high_table(form, loose, told(Fraction(first + 1, 10))))
            self.assertIs(high_table(form, loose, told(Fraction(first, 10))) is None, is_just)
            # The signs that make the bounds the greatest are among all of them.
            for seen in (low, high):
                for one, other, bound in zip(table_read(seen), table, bounds):
                    self.assertTrue(all(abs(a - b) == most for a, b, most in zip(one, other, bound)))

    def test_turned(self):
        # The last roots of the opposite tables are the first ones, with the other sign.
        source = source_of(131)
        for size in (1, 2, 3, 4):
            table, bounds = byhand.planted(source, list(range(size))), some_bounds(source, size)
            opposite = table_told([[-number for number in row] for row in table])
            k, is_just = first_near(table_told(table), table_told(bounds), 7)
            self.assertEqual(last_near(opposite, table_told(bounds), 7), (-k if is_just else -k - 1, is_just))

    def test_great(self):
        source = source_of(132)
        for size in (1, 2):
            table = byhand.great_table(source, size, False)
            bounds = [[abs(number) for number in row] for row in byhand.great_table(source, size, False)]
            self.check(table, bounds, 1000)
        bounds = [[abs(number) for number in row] for row in byhand.great_table(source, 3, True)]
        self.check(byhand.great_table(source, 3, True), bounds, 1)
        table, bounds = byhand.along([FIGURES, LITTLE]), byhand.along([1, LITTLE])
        self.assertEqual(last_near(table_told(table), table_told(bounds), 1), (0, True))
        self.assertEqual(first_near(table_told(table), table_told(bounds), 1), (FIGURES + 1, True))
        self.assertIsNone(low_table(table_told(table), table_told(bounds), (0, 1)))
        self.assertEqual(read(low_table(table_told(table), table_told(bounds), told(LITTLE))[1][1]), 0)


if __name__ == "__main__":
    unittest.main()
