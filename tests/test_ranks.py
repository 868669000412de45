"""[22]: triples that go together, the least change, and a change built."""

import unittest
from fractions import Fraction
from itertools import product

import byhand
from byhand import FIGURES, counts_of_size, counts_to, source_of, table_read, table_told, told
from rootsabove.ranks import change_to, is_change, least_change
from rootsabove.tables import is_table, root_counts
from samples import GOLDEN, SILVER, great_tables, other_tables

NIL = (0, 1)
SIDES = {1: 0, 0: 1, -1: 2}


def one_more(counts, sign):
    return tuple(count + (place == SIDES[sign]) for place, count in enumerate(counts))


def sums_of_signs(one, other):
    """The signs that the sum of two numbers of these signs may have."""
    if one * other < 0:
        return (1, 0, -1)
    return (one or other,)


def changes_by_steps(before):
    """All (CHANGE, AFTER) of tables with numbers along alone: one number of the squares after the other."""
    found = {((0, 0, 0), (0, 0, 0))}
    for sign, many in zip((1, 0, -1), before):
        for _ in range(many):
            found = {(one_more(change, step), one_more(after, end)) for change, after in found
                     for step in (1, 0, -1) for end in sums_of_signs(sign, step)}
    return found


class Together(unittest.TestCase):
    def test_every_triple(self):
        together = 0
        for before in counts_to(5):
            size = sum(before)
            expected = changes_by_steps(before)
            for change, after in product(counts_of_size(size), repeat=2):
                found = is_change(before, change, after)
                self.assertIs(found, (change, after) in expected, (before, change, after))
                together += found
        self.assertGreater(together, 1000)

    def test_of_tables(self):
        source = source_of(111)
        for size in range(1, 6):
            for _ in range(25):
                one, other = byhand.some_table(source, size, 2), byhand.some_table(source, size, 2)
                triples = [byhand.counts_by_squares(table, 0) for table in (one, other, byhand.added(one, other))]
                self.assertIs(is_change(*triples), True)

    def test_signs_turned(self):
        # With the signs of all tables turned the triples are read from the other end.
        for before in counts_to(4):
            for change, after in product(counts_of_size(sum(before)), repeat=2):
                turned = is_change(before[::-1], change[::-1], after[::-1])
                self.assertIs(is_change(before, change, after), turned)


class Least(unittest.TestCase):
    def test_least_of_all(self):
        for before in counts_to(5):
            ways = changes_by_steps(before)
            for after in counts_of_size(sum(before)):
                found = least_change(before, after)
                self.assertIs(type(found), tuple)
                self.assertEqual([type(part) for part in found], [int] * 2)
                ends = [(change[0], change[2]) for change, end in ways if end == after]
                self.assertIn(found, ends)
                self.assertEqual(found, (min(end[0] for end in ends), min(end[1] for end in ends)))

    def test_no_change(self):
        for counts in counts_to(5):
            self.assertEqual(least_change(counts, counts), (0, 0))


class Built(unittest.TestCase):
    def check(self, table, number, change, after):
        """The change, seen again by the counts of it and of the sum; whether there is one."""
        form, at = table_told(table), told(number)
        before = root_counts(form, at)
        found = change_to(form, at, change, after)
        if not is_change(before, change, after):
            self.assertIsNone(found)
            return False
        self.assertIs(is_table(found), True)
        self.assertEqual(len(found), len(table))
        added = byhand.added(table, table_read(found))
        self.assertEqual(byhand.counts_by_squares(table_read(found), 0), change)
        self.assertEqual(byhand.counts_by_squares(added, number), after)
        return True

    def check_all(self, table, number, every=1):
        size = len(table)
        for change, after in list(product(counts_of_size(size), repeat=2))[::every]:
            with self.subTest(table=table, number=number, change=change, after=after):
                self.check(table, number, change, after)

    def test_every_change(self):
        source = source_of(112)
        for before in counts_to(5):
            table = byhand.of_counts(source, before)
            self.check_all(table, 0, (1, 1, 1, 3, 7)[sum(before) - 1])

    def test_every_change_built(self):
        # Each that goes together, for a table of each lot of counts, its roots beside the number 1 / 3.
        source = source_of(113)
        for before in counts_to(4):
            table = byhand.less(byhand.of_counts(source, before), Fraction(-1, 3))
            for change, after in sorted(changes_by_steps(before)):
                self.assertTrue(self.check(table, Fraction(1, 3), change, after))

    def test_some_tables(self):
        for table in other_tables(114, 3):
            for number in (Fraction(0), Fraction(1), Fraction(-5, 4)):
                self.check_all(table, number, 13 if len(table) > 3 else 5)

    def test_no_fractions(self):
        source = source_of(115)
        for parts in ([GOLDEN], [GOLDEN, SILVER], [GOLDEN, [[1]], [[1]]]):
            table = byhand.mixed(source, byhand.blocks(parts))
            for number in (0, 1, 2):
                self.check_all(table, Fraction(number), 5)

    def test_nothing_and_opposite(self):
        for table in other_tables(116, 3):
            form, size = table_told(table), len(table)
            counts = root_counts(form, NIL)
            nothing = table_told(byhand.along([0] * size))
            self.assertEqual(change_to(form, NIL, (0, size, 0), counts), nothing)
            # The opposite table alone makes all roots 0.
            self.assertEqual(change_to(form, NIL, counts[::-1], (0, size, 0)), table_told(
                [[-value for value in row] for row in table]))

    def test_great(self):
        for table in great_tables():
            size = len(table)
            before = root_counts(table_told(table), told(table[0][0]))
            for change, after in sorted(changes_by_steps(before))[::60 if size == 5 else 4]:
                self.assertTrue(self.check(table, table[0][0], change, after))
        roots = [Fraction(FIGURES), Fraction(1, FIGURES), 0, Fraction(-1, FIGURES)]
        table = byhand.planted(source_of(117), roots)
        for change, after in sorted(changes_by_steps((2, 1, 1)))[::5]:
            self.assertTrue(self.check(table, 0, change, after))

    def test_built_may_be_passed(self):
        # There and back again.
        for table in list(great_tables())[:3] + list(other_tables(118, 1)):
            form, size = table_told(table), len(table)
            before = root_counts(form, NIL)
            change = change_to(form, NIL, (size, 0, 0), (size, 0, 0))
            raised = table_told(byhand.added(table, table_read(change)))
            back = change_to(raised, NIL, (0, 0, size), before)
            self.assertEqual(root_counts(back, NIL), (0, 0, size))


if __name__ == "__main__":
    unittest.main()
