"""[25], [26]: counts of all fillings, a filling built; bordered triples, a border and a corner built."""

import unittest
from fractions import Fraction
from itertools import product

import byhand
from byhand import FIGURES, counts_of_size, counts_to, source_of, table_read, table_told
from rootsabove.fillings import bordered, fill_triples, filled, is_bordered
from rootsabove.tables import is_table, root_counts, rows_at
from samples import GOLDEN, SILVER, great_tables, planted_tables

NIL = (0, 1)
LITTLE = Fraction(1, FIGURES)


def joined(table, border, corner):
    """The whole table, number by number."""
    size, many = len(table), len(border)
    found = [[None] * (size + many) for _ in range(size + many)]
    for i in range(size + many):
        for j in range(size + many):
            if i < size and j < size:
                found[i][j] = table[i][j]
            elif i >= size and j >= size:
                found[i][j] = corner[i - size][j - size]
            else:
                found[i][j] = border[max(i, j) - size][min(i, j)]
    return found


def triples_by_ranks(table, border):
    """By the words of [25], with the rank of the products reckoned anew."""
    above, at, below = byhand.counts_by_squares(table, 0)
    rows = byhand.noughts(table)
    tied = byhand.rank([[byhand.dot(line, row) for row in rows] for line in border])
    return tuple(sorted((above + tied + i, at - tied + j, below + tied + k)
                        for i, j, k in counts_of_size(len(border) - tied) or [(0, 0, 0)]))


def borders(source, table, many):
    """Borders of some rows, of noughts, of rows taken to noughts, of sums of multiples of one another."""
    size = len(table)
    some = [[byhand.some_fraction(source, 2) for _ in range(size)] for _ in range(many)]
    yield some
    yield [[Fraction(0)] * size for _ in range(many)]
    yield [[k * number for number in some[0]] for k in range(1, many + 1)]
    rows = byhand.noughts(table)
    if rows:
        yield [[k * number for number in rows[0]] for k in range(many)]
        yield [rows[k % len(rows)] for k in range(many)]
        yield [[a + b for a, b in zip(line, rows[-1])] for line in some]
    # Rows that the table makes, so that nothing is tied.
    yield [byhand.led(table, line) for line in some]
    yield [byhand.led(table, line) for line in some[:-1]] + [some[-1]]


class Fillings(unittest.TestCase):
    def check(self, table, border):
        """All triples, by ranks; for each one a corner, for each other one none; the triples."""
        form, beside = table_told(table), table_told(border)
        size, many = len(table), len(border)
        triples = fill_triples(form, beside)
        self.assertEqual(triples, triples_by_ranks(table, border))
        self.assertEqual(list(triples), sorted(set(triples)))
        self.assertEqual({type(count) for counts in triples for count in counts}, {int})
        for counts in counts_of_size(size + many):
            corner = filled(form, beside, counts)
            if counts not in triples:
                self.assertIsNone(corner)
                continue
            self.assertIs(is_table(corner), True)
            self.assertEqual(len(corner), many)
            whole = joined(table, border, table_read(corner))
            self.assertEqual(byhand.counts_by_squares(whole, 0), counts)
        return triples

    def check_corners(self, source, table, border, triples):
        many = len(border)
        for turn in range(8):
            corner = byhand.some_table(source, many, (1, 3, 40)[turn % 3])
            self.assertIn(byhand.counts_by_squares(joined(table, border, corner), 0), triples)

    def test_every_counts(self):
        source = source_of(141)
        for counts in counts_to(4):
            size = sum(counts)
            table = byhand.of_counts(source, counts)
            for many in range(1, 6 - size):
                for border in borders(source, table, many):
                    with self.subTest(table=table, border=border):
                        triples = self.check(table, border)
                        self.check_corners(source, table, border, triples)

    def test_many_corners_find_all(self):
        # What is told to come does come, and nothing else, with corners that are tried blindly.
        table = byhand.along([1, 0, 0])
        for border in ([[0, 1, 0], [0, 2, 0]], [[0, 0, 1], [1, 0, 0]], [[1, 1, -2], [0, 0, 0]], [[1, 0, 0], [1, 0, 0]],
                       [[0, 1, 0], [1, 0, 1]], [[0, 0, 0], [0, 0, 0]], [[1, 2, 0], [0, 4, 0]]):
            border = [[Fraction(number) for number in row] for row in border]
            seen = set()
            for numbers in product([Fraction(k, 2) for k in range(-4, 5)], repeat=3):
                corner = [[numbers[0], numbers[1]], [numbers[1], numbers[2]]]
                seen.add(byhand.counts_by_squares(joined(table, border, corner), 0))
            self.assertEqual(self.check(table, border), tuple(sorted(seen)))

    def test_planted(self):
        source = source_of(143)
        for _, table in planted_tables():
            if len(table) < 5:
                for many in {1, 5 - len(table)}:
                    for border in list(borders(source, table, many))[::2]:
                        with self.subTest(table=table, border=border):
                            self.check(table, border)

    def test_no_fractions(self):
        source = source_of(144)
        for parts in ([GOLDEN], [SILVER, [[0]]], [GOLDEN, [[0]], [[0]]], [GOLDEN, SILVER]):
            table = byhand.mixed(source, byhand.blocks(parts))
            for border in borders(source, table, 5 - len(table)):
                self.check(table, border)

    def test_by_hand(self):
        one, nil = Fraction(1), Fraction(0)
        for table, border, triples in (
                ([[nil]], [[nil]], ((0, 1, 1), (0, 2, 0), (1, 1, 0))), ([[nil]], [[one]], ((1, 0, 1),)),
                ([[nil, nil], [nil, nil]], [[one, nil], [nil, one]], ((2, 0, 2),)),
                ([[nil, nil], [nil, nil]], [[one, nil], [2 * one, nil]], ((1, 1, 2), (1, 2, 1), (2, 1, 1))),
                ([[-one]], [[5 * one]], ((0, 0, 2), (0, 1, 1), (1, 0, 1))),
                ([[nil] * 4] * 4, [[one] * 4], ((1, 3, 1),))):
            self.assertEqual(self.check(table, border), triples)

    def test_great(self):
        source = source_of(145)
        for table in great_tables():
            if len(table) < 5:
                many = 5 - len(table)
                border = [[byhand.great_fraction(source) for _ in table] for _ in range(many)]
                self.check(table, border)
        table = byhand.planted(source, [Fraction(FIGURES), LITTLE, Fraction(0)])
        row = byhand.noughts(table)[0]
        for border in ([row, [LITTLE * number for number in row]], [byhand.led(table, row), row],
                       [[LITTLE, Fraction(FIGURES), Fraction(1)]] * 2):
            self.check(table, border)

    def test_built_may_be_passed(self):
        source = source_of(146)
        table = byhand.great_table(source, 3, False)
        border = [[byhand.great_fraction(source) for _ in table] for _ in range(2)]
        form, beside = table_told(table), table_told(border)
        for counts in fill_triples(form, beside):
            corner = filled(form, beside, counts)
            whole = table_told(joined(table, border, table_read(corner)))
            self.assertEqual(root_counts(whole, NIL), counts)
            # The rows taken to noughts, as many as told, are those of the whole table.
            self.assertEqual(len(rows_at(whole, NIL)), counts[1])


def one_fewer(counts, side):
    return tuple(count - (place == side) for place, count in enumerate(counts))


def one_more(counts, side):
    return tuple(count + (place == side) for place, count in enumerate(counts))


def wholes_by_pairs(one, other):
    """All counts of a whole table of numbers along, pairs of them tied in all ways or not tied, one by one."""
    if not any(other):
        return {one}
    side = next(place for place in range(3) if other[place])
    rest = one_fewer(other, side)
    found = {one_more(whole, side) for whole in wholes_by_pairs(one, rest)}
    for place in range(3):
        if one[place]:
            for whole in wholes_by_pairs(one_fewer(one, place), rest):
                # Any number beside: great ones make one above and one below, and of like signs one makes a 0.
                found.add(one_more(one_more(whole, 0), 2))
                if place == side and side != 1:
                    found.add(one_more(one_more(whole, side), 1))
    return found


class Bordered(unittest.TestCase):
    def test_every_triple(self):
        told_so = {True: 0, False: 0}
        for one, other in product(counts_to(4), repeat=2):
            expected = wholes_by_pairs(one, other)
            for whole in counts_of_size(sum(one) + sum(other)):
                found = is_bordered(one, other, whole)
                self.assertIs(found, whole in expected, (one, other, whole))
                told_so[found] += 1
        self.assertGreater(min(told_so.values()), 1000)

    def test_exchanged(self):
        for one, other in product(counts_to(3), repeat=2):
            for whole in counts_of_size(sum(one) + sum(other)):
                self.assertIs(is_bordered(one, other, whole), is_bordered(other, one, whole))

    def test_of_tables(self):
        source = source_of(147)
        for size in range(1, 5):
            for many in range(1, 6 - size):
                for _ in range(12):
                    table, corner = byhand.some_table(source, size, 2), byhand.some_table(source, many, 2)
                    border = [[byhand.some_fraction(source, 2) for _ in range(size)] for _ in range(many)]
                    triples = [byhand.counts_by_squares(form, 0)
                               for form in (table, corner, joined(table, border, corner))]
                    self.assertIs(is_bordered(*triples), True)

    def check(self, table, corner, whole):
        """The border and the corner, seen again by the counts of the corner and of the whole table; whether some."""
        form = table_told(table)
        found = bordered(form, corner, whole)
        if whole not in wholes_by_pairs(root_counts(form, NIL), corner):
            self.assertIsNone(found)
            return False
        self.assertIs(type(found), tuple)
        border, beside = found
        self.assertEqual((type(border), len(border)), (tuple, sum(corner)))
        for row in border:
            self.assertTrue(byhand.is_row_of(row, len(table)))
        self.assertIs(is_table(beside), True)
        self.assertEqual(len(beside), sum(corner))
        self.assertEqual(byhand.counts_by_squares(table_read(beside), 0), corner)
        all_of_it = joined(table, table_read(border), table_read(beside))
        self.assertEqual(byhand.counts_by_squares(all_of_it, 0), whole)
        return True

    def check_all(self, table, every=1):
        size = len(table)
        for corner in counts_to(5 - size):
            for whole in counts_of_size(size + sum(corner))[::every]:
                with self.subTest(table=table, corner=corner, whole=whole):
                    self.check(table, corner, whole)

    def test_every_border(self):
        source = source_of(148)
        for counts in counts_to(4):
            self.check_all(byhand.of_counts(source, counts))

    def test_planted(self):
        for _, table in planted_tables():
            if len(table) < 5:
                self.check_all(table, 2)

    def test_no_fractions(self):
        source = source_of(149)
        for parts in ([GOLDEN], [SILVER, [[0]]], [GOLDEN, SILVER]):
            self.check_all(byhand.mixed(source, byhand.blocks(parts)))

    def test_great(self):
        for table in great_tables():
            if len(table) < 5:
                self.check_all(table, 3)
        source = source_of(150)
        self.check_all(byhand.planted(source, [Fraction(FIGURES), LITTLE, Fraction(0)]))

    def test_filled_anew(self):
        # The border that is told lets the counts of the whole table for some corner.
        source = source_of(151)
        table = table_told(byhand.of_counts(source, (1, 1, 1)))
        for corner in counts_of_size(2):
            for whole in counts_of_size(5):
                found = bordered(table, corner, whole)
                if found is not None:
                    self.assertIn(whole, fill_triples(table, found[0]))
                    self.assertIsNotNone(filled(table, found[0], whole))


if __name__ == "__main__":
    unittest.main()
