"""[2], [27]: claims and their papers, the checker, the certificates."""

import unittest
from fractions import Fraction
from itertools import product

import byhand
from byhand import FIGURES, counts_of_size, counts_to, read, row_told, source_of, table_told, told
from calls import PARAMETERS
from judge import JUDGES, OPPOSITES, bent, is_so
from rootsabove import certificates
from rootsabove.checker import accepts
from rootsabove.tables import root_counts
from samples import GOLDEN, SILVER, great_tables, other_tables, planted_tables
from wrongs import (
    ANYTHING, BORDER, HALF, LESS, LOOSE, NIL, NO_FRACTIONS, NO_TABLES, ONE, PAIR, ROW, THREE, TWO, Own, nested,
)

LITTLE = Fraction(1, FIGURES)
NAMES = ("certify_counts certify_from certify_within certify_trial certify_mean certify_laced certify_arrow certify_raise"
         " certify_spread certify_sum certify_stay certify_change certify_near certify_kept certify_filling"
         " certify_bordering").split()
SWAP = ((NIL, ONE), (ONE, NIL))
FOUR = (4, 1)


def small_cases():
    """Functions, arguments, and the first word of the claim that is so."""
    yield from (
        ("certify_counts", (PAIR, TWO), "counts"), ("certify_counts", (PAIR, ONE), "counts"),
        ("certify_counts", (((TWO,),), TWO), "counts"), ("certify_counts", (((TWO,),), HALF), "counts"),
        ("certify_from", (PAIR, TWO, 1), "roots from"), ("certify_from", (PAIR, TWO, 2), "fewer from"),
        ("certify_from", (PAIR, ONE, 2), "roots from"), ("certify_from", (PAIR, FOUR, 1), "fewer from"),
        ("certify_from", (((TWO,),), TWO, 1), "roots from"), ("certify_from", (((TWO,),), THREE, 1), "fewer from"),
        ("certify_within", (PAIR, ONE, TWO, 1), "within"), ("certify_within", (PAIR, ONE, TWO, 2), "fewer within"),
        ("certify_within", (PAIR, ONE, THREE, 2), "within"), ("certify_within", (PAIR, TWO, TWO, 1), "fewer within"),
        ("certify_within", (SWAP, LESS, LESS, 1), "within"), ("certify_within", (SWAP, NIL, HALF, 1), "fewer within"),
        ("certify_trial", ((1, 0, 1), (0, 1, 0)), "trial"), ("certify_trial", ((1, 0, 1), (0, 2, 0)), "no trial"),
        ("certify_trial", ((2, 0, 0), (0, 1, 0)), "no trial"), ("certify_trial", ((1, 1, 1), (0, 2, 0)), "trial"),
        ("certify_mean", (TWO, ONE, ONE, THREE), "surely within"),
        ("certify_mean", (TWO, ONE, ONE, (5, 2)), "perhaps outside"),
        ("certify_mean", (TWO, NIL, THREE, THREE), "perhaps outside"),
        ("certify_mean", (TWO, NIL, TWO, TWO), "surely within"),
        ("certify_mean", (TWO, HALF, HALF, ONE), "perhaps outside"),
        ("certify_laced", ((THREE, ONE), (TWO,)), "laced"), ("certify_laced", ((THREE, ONE), (FOUR,)), "not laced"),
        ("certify_laced", ((FOUR, TWO, NIL, LESS), (ONE,)), "laced"),
        ("certify_laced", ((FOUR, TWO, NIL), (FOUR, FOUR)), "not laced"),
        ("certify_arrow", ((THREE, ONE), (TWO,)), "arrow"), ("certify_arrow", ((THREE, ONE), (FOUR,)), "no arrow"),
        ("certify_arrow", ((THREE, TWO, ONE), (TWO, TWO)), "arrow"),
        ("certify_arrow", ((THREE, TWO, ONE), (ONE, ONE)), "no arrow"),
        ("certify_raise", ((TWO, NIL), (NIL, NIL)), "raised"), ("certify_raise", ((THREE, ONE), (TWO, NIL)), "raised"),
        ("certify_raise", ((TWO, ONE), (THREE, NIL)), "not raised"), ("certify_raise", ((TWO,), (THREE,)), "not raised"),
        ("certify_raise", ((TWO,), (NIL,)), "raised"),
        ("certify_spread", ((THREE, ONE), (TWO, TWO)), "spread"),
        ("certify_spread", ((THREE, ONE), (NIL, FOUR)), "not spread"),
        ("certify_spread", ((THREE, ONE), (ONE, TWO)), "not spread"),
        ("certify_spread", ((THREE,), (THREE,)), "spread"), ("certify_spread", ((THREE,), (TWO,)), "not spread"),
        ("certify_spread", ((THREE, ONE, NIL), (ONE, ONE, TWO)), "spread"),
        ("certify_spread", ((THREE, ONE, NIL), (ONE, ONE, ONE)), "not spread"),
        ("certify_sum", (PAIR, 1, THREE), "sum up to"), ("certify_sum", (PAIR, 1, TWO), "sum above"),
        ("certify_sum", (PAIR, 2, FOUR), "sum up to"), ("certify_sum", (PAIR, 2, THREE), "sum above"),
        ("certify_stay", (PAIR, (ONE, ONE), ONE), "stays"), ("certify_stay", (PAIR, (ONE, NIL), ONE), "leaves"),
        ("certify_stay", (PAIR, (ONE, ONE), TWO), "leaves"), ("certify_stay", (PAIR, (NIL, NIL), THREE), "stays"),
        ("certify_stay", (((TWO,),), (NIL,), TWO), "stays"), ("certify_stay", (((TWO,),), (ONE,), TWO), "leaves"),
        ("certify_change", ((1, 0, 1), (1, 1, 0), (2, 0, 0)), "change"),
        ("certify_change", ((1, 0, 1), (0, 1, 1), (2, 0, 0)), "no change"),
        ("certify_change", ((0, 1, 0), (0, 1, 0), (0, 1, 0)), "change"),
        ("certify_change", ((0, 1, 0), (1, 0, 0), (0, 1, 0)), "no change"),
        ("certify_near", (PAIR, TWO, (3, 2), 2), "near"), ("certify_near", (PAIR, TWO, ONE, 2), "not near"),
        ("certify_near", (PAIR, TWO, NIL, 1), "near"), ("certify_near", (PAIR, TWO, NIL, 0), "not near"),
        ("certify_near", (((ONE,),), NIL, ONE, 0), "near"), ("certify_near", (((ONE,),), NIL, HALF, 0), "not near"),
        ("certify_kept", (PAIR, SWAP, NIL), "kept"), ("certify_kept", (PAIR, SWAP, HALF), "broken"),
        ("certify_kept", (PAIR, ((NIL, NIL), (NIL, NIL)), ONE), "kept"), ("certify_kept", (PAIR, LOOSE, NIL), "broken"),
        ("certify_filling", (((ONE,),), ((ONE,),), (1, 1, 0)), "fills"),
        ("certify_filling", (((NIL,),), ((ONE,),), (2, 0, 0)), "fills not"),
        ("certify_filling", (PAIR, ((ONE, LESS),), (2, 1, 0)), "fills"),
        ("certify_filling", (((NIL,),), ((ONE,), (TWO,)), (2, 0, 1)), "fills"),
        ("certify_filling", (((NIL,),), ((ONE,), (TWO,)), (1, 0, 2)), "fills"),
        ("certify_filling", (((NIL,),), ((ONE,), (TWO,)), (0, 2, 1)), "fills not"),
        ("certify_bordering", ((1, 0, 0), (1, 0, 0), (1, 0, 1)), "bordered"),
        ("certify_bordering", ((0, 1, 0), (0, 1, 0), (1, 1, 0)), "not bordered"),
        ("certify_bordering", ((1, 0, 0), (0, 0, 1), (2, 0, 0)), "not bordered"),
        ("certify_bordering", ((1, 1, 0), (0, 1, 0), (2, 0, 1)), "bordered"),
        ("certify_bordering", ((0, 1, 0), (0, 1, 0), (0, 2, 0)), "bordered"),
    )


def certified(name, arguments):
    return getattr(certificates, name)(*arguments)


class Certified(unittest.TestCase):
    """What all cases have in common."""

    def check(self, name, arguments, word=None):
        """The claim that is so, with a paper that is accepted, and nothing for the opposite one; claim and paper."""
        found = certified(name, arguments)
        self.assertIs(type(found), tuple)
        claim, paper = found
        self.assertIs(type(claim), tuple)
        if word is not None:
            self.assertEqual(claim[0], word)
        self.assertEqual(claim[1:1 + len(arguments)], arguments)
        for part, argument in zip(claim[1:], arguments):
            self.assertIs(part, argument)
        self.assertEqual(len(claim), 1 + len(arguments) + (name == "certify_counts"))
        self.assertIs(accepts(claim, paper), True)
        self.assertIs(accepts(claim=claim, paper=paper), True)
        if claim[0] in JUDGES:
            self.assertIs(is_so(claim[0], claim[1:], paper), True)
        else:
            self.assertEqual(paper, ())
        if claim[0] in OPPOSITES:
            opposite = (OPPOSITES[claim[0]],) + claim[1:]
            for other in (paper, ()):
                self.assertIs(accepts(opposite, other), False)
        return claim, paper


class Cases(Certified):
    def test_small(self):
        for name, arguments, word in small_cases():
            with self.subTest(name=name, arguments=arguments):
                self.check(name, arguments, word)

    def test_each_word_is_tried(self):
        words = {word for _, _, word in small_cases()}
        self.assertEqual(words, set(OPPOSITES) | {"counts"})
        self.assertEqual({name for name, _, _ in small_cases()}, set(NAMES))

    def test_told_claims(self):
        self.assertEqual(certificates.certify_counts(PAIR, ONE)[0], ("counts", PAIR, ONE, (1, 1, 0)))
        self.assertEqual(certificates.certify_sum(PAIR, 1, THREE), (("sum up to", PAIR, 1, THREE), ()))
        self.assertEqual(certificates.certify_near(PAIR, TWO, ONE, 2), (("not near", PAIR, TWO, ONE, 2), ()))
        self.assertEqual(certificates.certify_kept(PAIR, SWAP, NIL), (("kept", PAIR, SWAP, NIL), ()))

    def test_planted(self):
        for roots, table in list(planted_tables())[1::2]:
            form, size = table_told(table), len(table)
            for number in sorted(set(roots)) + [Fraction(1, 2)]:
                at = told(number)
                claim, _ = self.check("certify_counts", (form, at))
                self.assertEqual(claim[3], byhand.counts_of_roots(roots, number))
                for least in range(1, size + 1):
                    many = sum(root >= number for root in roots)
                    self.check("certify_from", (form, at, least), "roots from" if many >= least else "fewer from")
                    many = sum(number - 1 <= root <= number + 2 for root in roots)
                    arguments = (form, told(number - 1), told(number + 2), least)
                    self.check("certify_within", arguments, "within" if many >= least else "fewer within")
            for many in range(1, size + 1):
                most = sum(sorted(roots)[-many:], Fraction(0))
                self.check("certify_sum", (form, many, told(most)), "sum up to")
                self.check("certify_sum", (form, many, told(most - Fraction(1, 10 ** 30))), "sum above")

    def test_stay(self):
        source = source_of(161)
        words = []
        for roots, table in planted_tables():
            for number in sorted(set(roots)):
                rows = byhand.noughts(byhand.less(table, number))
                for row in ([byhand.some_fraction(source) for _ in table], rows[0], byhand.led(byhand.less(table, number),
                                                                                               [1] * len(table))):
                    upright = byhand.rank([[byhand.dot(one, row)] for one in rows]) < len(rows)
                    self.check("certify_stay", (table_told(table), row_told(row), told(number)),
                               "stays" if upright else "leaves")
                    words.append(upright)
        self.assertTrue(20 < sum(words) < len(words) - 20)

    def test_others(self):
        source = source_of(162)
        for table in other_tables(163, 1):
            form, size = table_told(table), len(table)
            bounds = table_told([[abs(number) for number in row] for row in byhand.some_table(source, size)])
            for number in ((0, 1), (-5, 4)):
                for above in range(size + 1):
                    self.check("certify_near", (form, number, (1, 2), above))
                self.check("certify_kept", (form, bounds, number))
            for many in range(1, 6 - size):
                border = table_told([[byhand.some_fraction(source) for _ in range(size)] for _ in range(many)])
                for counts in counts_of_size(size + many)[::2]:
                    self.check("certify_filling", (form, border, counts))

    def test_no_fractions(self):
        source = source_of(164)
        table = table_told(byhand.mixed(source, byhand.blocks([GOLDEN, SILVER, [[1]]])))
        for number in ((1, 1), (8, 5), (-2, 5)):
            self.check("certify_counts", (table, number))
            for least in range(1, 6):
                self.check("certify_from", (table, number, least))
                self.check("certify_within", (table, (-1, 2), number if number[0] > 0 else (2, 1), least))
            for size in range(1, 6):
                self.check("certify_sum", (table, size, number))

    def test_all_triples(self):
        for counts in counts_to(4):
            for trial in counts_to(sum(counts)):
                self.check("certify_trial", (counts, trial))
        for before in counts_to(3):
            for change, after in product(counts_of_size(sum(before)), repeat=2):
                self.check("certify_change", (before, change, after))
        for before in counts_of_size(5)[::4]:
            for change, after in list(product(counts_of_size(5), repeat=2))[::29]:
                self.check("certify_change", (before, change, after))
        for one, other in product(counts_to(4), repeat=2):
            if sum(one) + sum(other) <= 5:
                for whole in counts_of_size(sum(one) + sum(other)):
                    self.check("certify_bordering", (one, other, whole))

    def test_told_roots(self):
        source = source_of(165)
        for size in range(1, 7):
            for _ in range(10):
                roots = sorted((Fraction(source.randrange(-4, 5)) for _ in range(size)), reverse=True)
                others = sorted((Fraction(source.randrange(-4, 5)) for _ in range(size)), reverse=True)
                between = [(one + other) / 2 for one, other in zip(roots, roots[1:])]
                below = between + [roots[-1] - 1]
                for many in range(1, size):
                    self.check("certify_laced", (row_told(roots), row_told(others[:many])))
                if size > 1:
                    self.check("certify_laced", (row_told(roots), row_told(between[:1])))
                    self.check("certify_arrow", (row_told(roots), row_told(between)), "arrow")
                    self.check("certify_arrow", (row_told(roots), row_told(others[1:])))
                self.check("certify_raise", (row_told(roots), row_told(below)), "raised")
                self.check("certify_raise", (row_told(roots), row_told(others)))
                for diagonal in (others, roots[::-1], [sum(roots) / size] * size):
                    self.check("certify_spread", (row_told(roots), row_told(diagonal)))

    def test_means(self):
        values = [Fraction(number, 2) for number in range(-2, 4)]
        for mean, low, high in product(values, repeat=3):
            if low <= high:
                for spread in (Fraction(0), Fraction(1, 4), Fraction(1)):
                    is_sure = low <= mean <= high and spread <= (mean - low) * (high - mean)
                    self.check("certify_mean", row_told((mean, spread, low, high)),
                               "surely within" if is_sure else "perhaps outside")

    def test_great(self):
        source = source_of(166)
        for table in great_tables():
            form, size = table_told(table), len(table)
            number, far = told(table[0][0]), told(table[0][0] + FIGURES)
            row = row_told([byhand.great_fraction(source) for _ in table])
            bounds = table_told([[abs(value) for value in line] for line in table])
            self.check("certify_counts", (form, number))
            for least in {1, size}:
                self.check("certify_from", (form, number, least))
                self.check("certify_within", (form, number, far, least))
            self.check("certify_sum", (form, 1, number))
            self.check("certify_stay", (form, row, number))
            for above in {0, size}:
                self.check("certify_near", (form, number, told(abs(table[0][-1])), above))
            self.check("certify_kept", (form, bounds, number))
            if size < 5:
                for counts in counts_of_size(5)[::5]:
                    self.check("certify_filling", (form, (row,) * (5 - size), counts))
        for size in range(2, 7):
            roots = sorted((byhand.great_fraction(source) for _ in range(size)), reverse=True)
            between = [(one + 2 * other) / 3 for one, other in zip(roots, roots[1:])]
            self.check("certify_laced", (row_told(roots), row_told(between[:1])))
            self.check("certify_arrow", (row_told(roots), row_told(between)), "arrow")
            self.check("certify_raise", (row_told(roots), row_told(between + [roots[-1] - LITTLE])), "raised")
            self.check("certify_spread", (row_told(roots), row_told([sum(roots) / size] * size)), "spread")
        for name, numbers in (("certify_mean", (Fraction(FIGURES), LITTLE, LITTLE, Fraction(FIGURES) + LITTLE)),
                              ("certify_mean", (LITTLE, LITTLE ** 2, Fraction(0), 2 * LITTLE))):
            self.check(name, row_told(numbers))

    def test_returned_may_be_certified(self):
        # Papers and what other parts returned, whatever the size of their numbers.
        table = table_told(byhand.great_table(source_of(167), 3, False))
        counts = root_counts(table, ONE)
        _, (form, change) = certificates.certify_change((1, 1, 1), (1, 1, 1), (2, 0, 1))
        self.check("certify_counts", (change, NIL))
        self.check("certify_kept", (form, tuple(tuple((abs(n), m) for n, m in row) for row in change), LESS))
        rows = certificates.certify_within(table, told(-FIGURES), told(FIGURES), 2)[1]
        self.check("certify_filling", (table, rows, (counts[0] + 1, 0, counts[2] + 1)))
        self.check("certify_stay", (table, rows[0], ONE))


class Bent(Certified):
    def test_bent_papers(self):
        """Of each paper all that is bent in one element: accepted just as the second checker tells."""
        seen = {True: 0, False: 0}
        for name, arguments, _ in small_cases():
            claim, paper = certified(name, arguments)
            if claim[0] not in JUDGES:
                continue
            opposite = (OPPOSITES.get(claim[0], "none"),) + claim[1:]
            for number, other in enumerate(bent(paper)):
                with self.subTest(claim=claim[0], arguments=arguments, number=number, other=other):
                    expected = is_so(claim[0], claim[1:], other)
                    self.assertIs(accepts(claim, other), expected)
                    self.assertIs(accepts(opposite, other), False)
                    seen[expected] += 1
        self.assertGreater(seen[True], 100)
        self.assertGreater(seen[False], 2000)

    def test_papers_of_other_claims(self):
        cases = [certified(name, arguments) for name, arguments, _ in small_cases()]
        for claim, _ in cases:
            for _, paper in cases:
                if claim[0] in JUDGES:
                    self.assertIs(accepts(claim, paper), is_so(claim[0], claim[1:], paper))
                else:
                    self.assertIs(accepts(claim, paper), type(paper) is tuple and paper == ())

    def test_claims_that_are_not_so(self):
        """Of claims with other parts, too, none that is not so is accepted with any of the papers."""
        cases = [certified(name, arguments) for name, arguments, _ in small_cases()]
        for claim, paper in cases:
            for other, _ in cases:
                if len(other) == len(claim):
                    for place in range(1, len(claim)):
                        mixed = claim[:place] + (other[place],) + claim[place + 1:]
                        found = accepts(mixed, paper)
                        self.assertIs(type(found), bool)
                        if found and mixed != claim and mixed[0] in OPPOSITES:
                            for one in (paper, ()):
                                self.assertIs(accepts((OPPOSITES[mixed[0]],) + mixed[1:], one), False)

    def test_just_one_of_both(self):
        """Of two claims that exclude one another just one is accepted with (): those that both want no paper."""
        for table in other_tables(168, 1):
            form = table_told(table)
            for size in range(1, len(table) + 1):
                for number in ((0, 1), (2, 1), (7, 2)):
                    found = [accepts((word, form, size, number), ()) for word in ("sum up to", "sum above")]
                    self.assertEqual(sorted(found), [False, True])

    def test_counts_exclude_one_another(self):
        for table in other_tables(169, 1):
            form = table_told(table)
            claim, paper = certificates.certify_counts(form, ONE)
            for counts in counts_of_size(len(table)):
                found = accepts(("counts", form, ONE, counts), paper)
                self.assertIs(found, counts == claim[3])
                self.assertIs(accepts(("counts", form, ONE, counts), ()), False)


class OwnPapers(unittest.TestCase):
    def test_right_papers(self):
        two, five, quarter = (2, 1), (5, 1), (1, 4)
        for claim, paper in (
                (("counts", SWAP, NIL, (1, 0, 1)), ((HALF, (ONE, ONE)), ((-1, 2), (ONE, LESS)))),
                (("counts", SWAP, NIL, (1, 0, 1)), (((-2, 1), (HALF, (-1, 2))), ((2, 1), (HALF, HALF)))),
                (("counts", ((NIL,),), NIL, (0, 1, 0)), ((NIL, ((7, 3),)),)),
                (("roots from", PAIR, TWO, 1), (((3, 1), (4, 1)),)), (("roots from", PAIR, TWO, 1), ((ONE, NIL),)),
                (("fewer from", PAIR, TWO, 2), ((ONE, (-1, 7)),)),
                (("within", PAIR, ONE, TWO, 1), (((-3, 1), (3, 1)),)),
                (("fewer within", PAIR, ONE, TWO, 2), ((ONE, two),)),
                (("trial", (1, 0, 1), (0, 1, 0)), (SWAP, ((NIL, LESS),))),
                (("trial", (1, 0, 1), (0, 1, 0)), (((ONE, NIL), (NIL, (-4, 1))), ((two, ONE),))),
                (("perhaps outside", TWO, ONE, ONE, (5, 2)), (HALF, (8, 3), (4, 13))),
                (("perhaps outside", TWO, ONE, ONE, (5, 2)), ((3, 4), (14, 5), (16, 41))),
                (("perhaps outside", TWO, NIL, THREE, FOUR), (TWO, TWO, ONE)),
                (("perhaps outside", TWO, NIL, THREE, FOUR), (TWO, TWO, NIL)),
                (("perhaps outside", TWO, NIL, THREE, FOUR), (LESS, TWO, NIL)),
                (("perhaps outside", TWO, NIL, THREE, FOUR), (TWO, (9, 2), ONE)),
                (("laced", (FOUR, TWO, NIL), (ONE,)), ((THREE, ONE),)), (("laced", (FOUR, TWO, NIL), (ONE,)), ((TWO, NIL),)),
                (("laced", (THREE, ONE), (ONE,)), ()),
                (("arrow", (THREE, TWO, ONE), (TWO, TWO)), ((HALF, HALF), TWO)),
                (("arrow", (THREE, TWO, ONE), (TWO, TWO)), ((NIL, ONE), TWO)),
                (("raised", (TWO, NIL), (NIL, NIL)), (ONE, ONE)), (("raised", (TWO, NIL), (NIL, NIL)), (NIL, TWO)),
                (("spread", (THREE, ONE), (TWO, TWO)), ((1, 0, HALF),)),
                (("spread", (THREE, ONE), (THREE, ONE)), ((1, 0, NIL), (0, 1, ONE), (0, 1, NIL))),
                (("spread", (THREE, ONE), (TWO, TWO)), ((0, 1, (1, 3)), (1, 0, HALF)) + ((0, 1, quarter),) * 150),
                (("not spread", (THREE, ONE), (NIL, five)), 1), (("not spread", (THREE, ONE), (NIL, five)), 2),
                (("not spread", (THREE, ONE), (NIL, ONE)), 2),
                (("stays", PAIR, (ONE, ONE), ONE), ((-5, 3), (5, 3))),
                (("change", (1, 0, 1), (1, 1, 0), (2, 0, 0)), (((ONE, NIL), (NIL, LESS)), ((NIL, NIL), (NIL, TWO)))),
                (("near", PAIR, TWO, ONE, 0), (((LESS, NIL), (NIL, LESS)))),
                (("near", PAIR, TWO, (3, 2), 2), (((3, 2), NIL), (NIL, (3, 2)))),
                (("broken", PAIR, SWAP, HALF), (((TWO, TWO), (TWO, TWO)), (ONE, LESS))),
                (("broken", PAIR, SWAP, HALF), (((TWO, (7, 4)), ((7, 4), TWO)), ((2, 7), (-2, 7)))),
                (("fills", ((ONE,),), ((ONE,),), (2, 0, 0)), (((9, 4),),)),
                (("fills", ((NIL,),), ((ONE,),), (1, 0, 1)), ((LESS,),)),
                (("bordered", (1, 0, 0), (1, 0, 0), (1, 0, 1)), (((five,),), ((THREE,),), ((ONE,),))),
                (("bordered", (0, 1, 0), (0, 1, 0), (1, 0, 1)), (((NIL,),), ((LESS,),), ((NIL,),)))):
            with self.subTest(claim=claim, paper=paper):
                self.assertIs(accepts(claim, paper), True)
                self.assertIs(is_so(claim[0], claim[1:], paper), True)

    def test_wrong_papers(self):
        off = (FIGURES + 1, FIGURES)
        for claim, paper in (
                (("counts", SWAP, NIL, (1, 0, 1)), ((HALF, (ONE, ONE)), (LESS, (ONE, LESS)))),
                (("counts", ((NIL, NIL), (NIL, NIL)), NIL, (0, 2, 0)), ((NIL, (ONE, ONE)), (NIL, (TWO, TWO)))),
                (("counts", ((NIL, NIL), (NIL, NIL)), NIL, (1, 0, 1)), ((ONE, (ONE, ONE)), (LESS, (ONE, ONE)))),
                (("counts", ((NIL,),), NIL, (0, 1, 0)), ((NIL, (NIL,)),)),
                (("counts", SWAP, NIL, (1, 0, 1)), ((HALF, (ONE, ONE)), ((-1, 2), (ONE, LESS)), (NIL, (ONE, NIL)))),
                (("roots from", PAIR, TWO, 2), ((ONE, ONE), (TWO, TWO))),
                (("roots from", PAIR, ONE, 1), ((ONE, ONE), (ONE, LESS))), (("roots from", PAIR, ONE, 2), ((ONE, ONE),)),
                (("roots from", PAIR, TWO, 1), ((NIL, NIL),)), (("roots from", PAIR, off, 2), ((ONE, ONE), (ONE, LESS))),
                (("fewer from", PAIR, TWO, 2), ((ONE, NIL),)), (("fewer from", PAIR, ONE, 2), ((ONE, LESS),)),
                (("within", PAIR, ONE, TWO, 1), ((ONE, NIL),)), (("within", PAIR, off, TWO, 1), ((ONE, LESS),)),
                (("fewer within", PAIR, ONE, TWO, 2), ((ONE, LESS),)),
                (("trial", (1, 0, 1), (0, 1, 0)), (SWAP, ((ONE, ONE),))), (("trial", (1, 0, 1), (0, 1, 0)), (PAIR, ((ONE, NIL),))),
                (("trial", (1, 0, 1), (0, 1, 0)), (((NIL,),), ((ONE,),))),
                (("trial", (1, 0, 1), (0, 1, 0)), (SWAP, ((ONE, NIL), (NIL, ONE)))),
                (("perhaps outside", TWO, ONE, ONE, (5, 2)), ((1, 1), (3, 1), (1, 2))),
                (("perhaps outside", TWO, ONE, ONE, (5, 2)), ((5, 2), (0, 1), (4, 5))),
                (("perhaps outside", TWO, ONE, ONE, (5, 2)), ((0, 1), (4, 1), (1, 2))),
                (("perhaps outside", TWO, ONE, ONE, (5, 2)), ((8, 3), HALF, (9, 13))),
                (("perhaps outside", TWO, NIL, THREE, FOUR), (TWO, TWO, LESS)),
                (("perhaps outside", TWO, NIL, THREE, FOUR), (TWO, TWO, TWO)),
                (("perhaps outside", TWO, NIL, THREE, FOUR), (TWO, FOUR, ONE)),
                (("perhaps outside", FOUR, NIL, THREE, FOUR), (TWO, FOUR, NIL)),
                (("laced", (FOUR, TWO, NIL), (ONE,)), ()), (("laced", (FOUR, TWO, NIL), (ONE,)), ((THREE, (3, 2)), (TWO,))),
                (("laced", (FOUR, TWO, NIL), (ONE,)), ((ONE, NIL),)), (("laced", (FOUR, TWO, NIL), (ONE,)), ((NIL, THREE),)),
                (("arrow", (THREE, TWO, ONE), (TWO, TWO)), ((TWO, LESS), TWO)),
                (("arrow", (THREE, TWO, ONE), (TWO, TWO)), ((ONE, NIL), THREE)),
                (("raised", (TWO, NIL), (NIL, NIL)), (THREE, LESS)), (("raised", (TWO, NIL), (NIL, NIL)), (TWO, NIL, NIL)),
                (("raised", (TWO, NIL), (NIL, NIL)), (off, ONE)),
                (("spread", (THREE, ONE), (TWO, TWO)), ()), (("spread", (THREE, ONE), (TWO, TWO)), ((0, 2, HALF),)),
                (("not spread", (THREE, ONE), (NIL, ONE)), 1), (("not spread", (THREE, ONE), (NIL, ONE)), True),
                (("not spread", (THREE, ONE), (NIL, FOUR)), 2), (("not spread", (THREE, ONE), (NIL, FOUR)), 0),
                (("not spread", (THREE, ONE), (NIL, FOUR)), 3), (("not spread", (THREE, ONE), (NIL, FOUR)), -1),
                (("stays", PAIR, (ONE, ONE), ONE), (NIL, NIL)), (("stays", PAIR, (ONE, ONE), ONE), (ONE, ONE)),
                (("stays", PAIR, (ONE, NIL), ONE), (ONE, LESS)), (("stays", PAIR, (ONE, ONE), off), (ONE, LESS)),
                (("change", (1, 0, 1), (1, 1, 0), (2, 0, 0)), (((ONE, NIL), (NIL, LESS)), ((NIL, NIL), (NIL, ONE)))),
                (("change", (1, 0, 1), (1, 1, 0), (2, 0, 0)), (((ONE, NIL), (NIL, LESS)), ((ONE, NIL), (NIL, TWO)))),
                (("near", PAIR, TWO, ONE, 0), ((((-1, 1), HALF), (HALF, (-1, 1))))),
                (("near", PAIR, TWO, (3, 2), 2), ((off, NIL), (NIL, NIL))),
                (("near", PAIR, TWO, (3, 2), 2), ((off, NIL, NIL), (NIL, off, NIL), (NIL, NIL, NIL))),
                (("broken", PAIR, SWAP, HALF), (((TWO, THREE), (THREE, TWO)), (ONE, LESS))),
                (("broken", PAIR, SWAP, HALF), (((TWO, TWO), (TWO, TWO)), (ONE, ONE))),
                (("broken", PAIR, SWAP, HALF), (((TWO, (3, 2)), ((3, 2), TWO)), (ONE, LESS))),
                (("broken", PAIR, SWAP, HALF), (((TWO, TWO), (TWO, TWO)), (NIL, NIL))),
                (("broken", PAIR, SWAP, FOUR), (((TWO,),), (ONE,))),
                (("broken", ((TWO,),), ((ONE,),), FOUR), (((TWO, NIL), (NIL, TWO)), (ONE, NIL))),
                (("near", ((TWO,),), TWO, ONE, 0), ((NIL, NIL), (NIL, NIL))),
                (("near", PAIR, TWO, ONE, 0), ((LESS,),)),
                (("fills", ((ONE,),), ((ONE,),), (1, 1, 0)), ((off,),)), (("fills", ((ONE,),), ((ONE,),), (1, 1, 0)), ()),
                (("fills", ((ONE,),), ((ONE,),), (2, 0, 0)), ((TWO, NIL), (NIL, TWO))),
                (("bordered", (1, 0, 0), (1, 0, 0), (1, 0, 1)), (((ONE,),), ((ONE,),), ((ONE,),))),
                (("bordered", (1, 0, 0), (1, 0, 0), (1, 0, 1)), (((ONE,),), ((TWO,), (TWO,)), ((ONE,),))),
                (("bordered", (1, 0, 0), (1, 0, 0), (1, 0, 1)), (((ONE,),), ((TWO, TWO),), ((ONE,),))),
                (("bordered", (1, 0, 0), (1, 0, 0), (1, 0, 1)), (((ONE,),), ((NIL,),), ((LESS,),)))):
            with self.subTest(claim=claim, paper=paper):
                self.assertIs(accepts(claim, paper), False)
                self.assertIs(is_so(claim[0], claim[1:], paper), False)


NOTHING = (None, False, True, 0, 1, "", "()", b"", [], {}, set(), frozenset(), ((),), (None,), ([],), ((), ()), Own(), range(0))


class WrongClaims(unittest.TestCase):
    def test_parts_of_another_kind(self):
        for call, parameters in PARAMETERS:
            if call.__name__ not in NAMES:
                continue
            good = tuple(value for _, value, _ in parameters)
            claim, paper = call(*good)
            self.assertIs(accepts(claim, paper), True)
            for place, (parameter, _, wrong) in enumerate(parameters):
                for number, (value, _, _) in enumerate(wrong):
                    parts = claim[1:1 + place] + (value,) + claim[2 + place:]
                    for word in (claim[0], OPPOSITES.get(claim[0], "counts")):
                        with self.subTest(call=call.__name__, parameter=parameter, number=number, word=word):
                            self.assertIs(accepts((word,) + parts, paper), False)
                            self.assertIs(accepts((word,) + parts, ()), False)

    def test_counts_of_another_kind(self):
        claim, paper = certificates.certify_counts(PAIR, ONE)
        for wrong in ANYTHING + ([1, 1, 0], (1, 1), (1, 1, 0, 0), (True, 1, 0), (1, True, False), (1, 1, False), (2, 1, 0),
                                 (2, 1, -1), (1, 0, 0), (0, 0, 0), (1, 0, 1), (Own(), 1, 0), ((1, 1), (1, 1), (0, 1))):
            self.assertIs(accepts(claim[:3] + (wrong,), paper), False)

    def test_true_for_one_and_lists(self):
        for name, arguments, _ in small_cases():
            claim, paper = certified(name, arguments)
            for place, part in enumerate(claim[1:], 1):
                for other in bent(part):
                    if other != part or type(other) is not type(part) or True in (other if type(other) is tuple else ()):
                        changed = claim[:place] + (other,) + claim[place + 1:]
                        self.assertIs(type(accepts(changed, paper)), bool)
                for wrong in ([part], list(part) if type(part) is tuple else None, None, True, (part,), "text"):
                    self.assertIs(accepts(claim[:place] + (wrong,) + claim[place + 1:], paper), False)
            for wrong in ((True, 1), (1, True), [1, 1], (2, 2), (1, -1)):
                for place, part in enumerate(claim[1:], 1):
                    self.assertIs(accepts(claim[:place] + (wrong,) + claim[place + 1:], paper), False)

    def test_too_many_and_too_few_parts(self):
        for name, arguments, _ in small_cases():
            claim, paper = certified(name, arguments)
            for other in (claim[:-1], claim + ((),), claim + (claim[-1],), claim[1:], claim[:1], claim + (paper,), (),
                          list(claim), (claim,), (claim, paper), (claim[0], claim[1:]), claim[::-1], dict.fromkeys("ab")):
                for one in (paper, ()):
                    self.assertIs(accepts(other, one), False)

    def test_other_first_words(self):
        for name, arguments, _ in small_cases():
            claim, paper = certified(name, arguments)
            for word in ("", "Counts", claim[0] + " ", claim[0].title(), claim[0] + "_", "none", None, True, 1,
                         claim[0].encode(), (claim[0],), [claim[0]], Own(), {claim[0]}, {claim[0]: 1}):
                self.assertIs(accepts((word,) + claim[1:], paper), False)
                self.assertIs(accepts((word,) + claim[1:], ()), False)

    def test_no_paper_is_just_the_empty_tuple(self):
        for name, arguments, word in small_cases():
            claim, paper = certified(name, arguments)
            for other in NOTHING:
                expected = word in JUDGES and is_so(word, claim[1:], other)
                self.assertIs(accepts(claim, other), expected)

    def test_whatever_both_are(self):
        values = ANYTHING + NO_TABLES[-20:] + NO_FRACTIONS[-20:] + NOTHING + (nested("counts", 13), ("counts",) * 4)
        claims = [certified(name, arguments)[0] for name, arguments, _ in small_cases()]
        for one, other in product(values, repeat=2):
            self.assertIs(accepts(one, other), False)
        for claim in claims:
            for value in values:
                for paper in (value, (value,), (value, value), (value, value, value)):
                    is_nothing = type(paper) is tuple and paper == ()
                    expected = is_so(claim[0], claim[1:], paper) if claim[0] in JUDGES else is_nothing
                    self.assertIs(accepts(claim, paper), expected)
                self.assertIs(accepts((claim[0], value, value), value), False)
                self.assertIs(accepts((claim[0], value, value, value), value), False)
                self.assertIs(accepts((claim[0], value, value, value, value), value), False)

    def test_papers_of_anything_beside_what_is_right(self):
        for name, arguments, _ in small_cases():
            claim, paper = certified(name, arguments)
            if type(paper) is tuple:
                for place in range(len(paper)):
                    for value in ANYTHING:
                        self.assertIs(accepts(claim, paper[:place] + (value,) + paper[place + 1:]), False)

    def test_arguments_stay(self):
        for name, arguments, _ in small_cases():
            claim, paper = certified(name, arguments)
            shown = repr((claim, paper))
            self.assertEqual(accepts(claim, paper), accepts(claim, paper))
            self.assertEqual(repr((claim, paper)), shown)
            self.assertEqual(repr(certified(name, arguments)), shown)

    def test_errors_of_bordering(self):
        # Both sums together are at most 5 for a claim, not so for is_bordered.
        for one, other in (((4, 0, 0), (1, 1, 0)), ((1, 1, 1), (0, 0, 3)), ((2, 0, 0), (1, 1, 2))):
            with self.assertRaises(ValueError) as caught:
                certificates.certify_bordering(one, other, "whole")
            self.assertIs(caught.exception.given, other)
            whole = tuple(a + b for a, b in zip(one, other))
            for word in ("bordered", "not bordered"):
                self.assertIs(accepts((word, one, other, whole), ()), False)


if __name__ == "__main__":
    unittest.main()
