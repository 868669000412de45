"""[3], [4], [5]: arguments by position and by name, what is wrong with them, and that they stay as they are."""

import copy
import inspect
import unittest

from calls import EXAMPLES, LISTED, PARAMETERS
from rootsabove import errors, means, spreads, stretches, tables, trials
from wrongs import CROSS, LESS, NIL, NO_FRACTIONS, NO_TABLES, NO_WHOLES, ONE, PAIR, THREE, TWO

GIVEN = ("InvalidTable", "InvalidFraction", "InvalidIndex", "InvalidNumber", "InvalidCounts", "InvalidPlaces",
         "InvalidBounds")



class Arguments(unittest.TestCase):
    def check_error(self, call, arguments, name, told):
        try:
            call(*arguments)
        except errors.RootError as error:
            self.assertIs(type(error), getattr(errors, name))
            if name in GIVEN:
                self.assertIs(error.given, told)
            else:
                self.assertIs(type(error.index), type(told))
                self.assertEqual(error.index, told)
        else:
            self.fail("no error")

    def test_signatures(self):
        for call, parameters in EXAMPLES:
            with self.subTest(call.__name__):
                self.assertEqual(list(inspect.signature(call).parameters), [name for name, _, _ in parameters])

    def test_each_wrong_argument(self):
        for call, parameters in PARAMETERS:
            good = [value for _, value, _ in parameters]
            for place, (parameter, _, wrong) in enumerate(parameters):
                for number, (value, name, told) in enumerate(wrong):
                    with self.subTest(call=call.__name__, parameter=parameter, number=number):
                        self.check_error(call, good[:place] + [value] + good[place + 1:], name, told)

    def test_errors_of_later_arguments_wait(self):
        for call, parameters in PARAMETERS:
            good = [value for _, value, _ in parameters]
            for place, (parameter, _, wrong) in enumerate(parameters):
                for number, (value, name, told) in enumerate(wrong[::7]):
                    later = [others[number % len(others)][0] for _, _, others in parameters[place + 1:]]
                    with self.subTest(call=call.__name__, parameter=parameter, number=number):
                        self.check_error(call, good[:place] + [value] + later, name, told)

    def test_is_table_takes_anything(self):
        for number, value in enumerate(NO_TABLES + NO_FRACTIONS + NO_WHOLES):
            with self.subTest(number=number):
                self.assertIs(tables.is_table(value), False)

    def test_by_name(self):
        for call, parameters in EXAMPLES:
            by_place = call(*[value for _, value, _ in parameters])
            with self.subTest(call.__name__):
                self.assertEqual(call(**{name: value for name, value, _ in parameters}), by_place)
                self.assertEqual(call(**{name: value for name, value, _ in parameters[::-1]}), by_place)
                first, rest = parameters[0], parameters[1:]
                self.assertEqual(call(first[1], **{name: value for name, value, _ in rest}), by_place)

    def test_by_name_errors(self):
        for call, parameters in PARAMETERS:
            for parameter, _, wrong in parameters:
                value, name, told = wrong[0]
                arguments = {other: good for other, good, _ in parameters}
                arguments[parameter] = value
                with self.subTest(call=call.__name__, parameter=parameter):
                    self.check_error(lambda: call(**arguments), (), name, told)

    def test_equal_calls(self):
        for call, parameters in EXAMPLES:
            with self.subTest(call.__name__):
                one = call(*[value for _, value, _ in parameters])
                other = call(*[copy.deepcopy(value) for _, value, _ in parameters])
                self.assertEqual(one, other)
                self.assertEqual(repr(one), repr(other))

    def test_arguments_stay(self):
        for call, parameters in PARAMETERS:
            good = [value for _, value, _ in parameters]
            shown = repr(good)
            call(*good)
            self.assertEqual(repr(good), shown)
            for place, (_, _, wrong) in enumerate(parameters):
                for number, (value, name, _) in enumerate(wrong):
                    shown = repr(value)
                    arguments = good[:place] + [value] + good[place + 1:]
                    with self.subTest(call=call.__name__, place=place, number=number):
                        self.assertRaises(getattr(errors, name), call, *arguments)
                        self.assertEqual(repr(value), shown)

    def test_defined_where_listed(self):
        for module, names in LISTED:
            found = [call.__name__ for call, _ in EXAMPLES if call.__module__ == module.__name__]
            self.assertEqual(found, names.split())
            for name in names.split():
                self.assertTrue(inspect.isfunction(getattr(module, name)))


class Limits(unittest.TestCase):
    def test_let_values_pass(self):
        self.assertEqual(tables.root_near(PAIR, 0, 1), (3, True))
        self.assertEqual(tables.root_near(PAIR, 1, 1000), (1000, True))
        self.assertEqual(spreads.turned((ONE,), ()), (ONE,))
        self.assertEqual(spreads.turned((ONE,) * 6, ((0, 5, NIL), (5, 4, ONE))), (ONE,) * 6)
        self.assertIs(spreads.is_spread((ONE,) * 6, (ONE,) * 6), True)
        self.assertIs(spreads.is_spread((LESS,), (ONE,)), False)
        self.assertEqual(spreads.sums_table(PAIR, 1), PAIR)
        self.assertEqual(spreads.sums_table(PAIR, 2), (((4, 1),),))
        self.assertEqual(spreads.sums_table(CROSS, 3), (((5, 1),),))

    def test_let_stretches_and_means_pass(self):
        self.assertEqual(stretches.within(PAIR, ONE, ONE), 1)
        self.assertEqual(len(stretches.rows_within(PAIR, THREE, THREE)), 1)
        self.assertIs(means.surely_within(ONE, NIL, ONE, ONE), True)
        self.assertIsNone(means.outside(ONE, NIL, ONE, ONE))
        self.assertEqual(means.greatest_bound(ONE, NIL, LESS), ONE)
        for table, row in ((((TWO,),), (LESS,)), (PAIR, (NIL, LESS))):
            self.assertEqual(means.mean_of(table, row), TWO)

    def test_trial_hangs_on_counts(self):
        for counts in ((1, 0, 0), (1, 1, 0), (1, 1, 1), (2, 1, 1), (5, 0, 0), (0, 0, 5), (0, 5, 0)):
            size = sum(counts)
            self.assertIs(trials.is_trial(counts, counts), True)
            for wrong in ((size + 1, 0, 0), (0, size + 1, 0), (0, 0, size + 1), (0, 0, 0)):
                for call in (trials.is_trial, trials.trial_example):
                    with self.assertRaises(errors.InvalidCounts) as caught:
                        call(counts, wrong)
                    self.assertIs(caught.exception.given, wrong)

    def test_one_row_has_no_turn(self):
        for turn in ((0, 0, ONE), (0, 1, ONE), (1, 0, NIL), (0, -1, ONE)):
            with self.assertRaises(errors.InvalidTurns) as caught:
                spreads.turned((ONE,), (turn,))
            self.assertEqual(caught.exception.index, 0)

    def test_size_and_index_hang_on_the_table(self):
        for size in range(1, 6):
            table = tuple(tuple(ONE if i == j else NIL for j in range(size)) for i in range(size))
            self.assertIs(tables.is_table(table), True)
            self.assertEqual(tables.root_near(table, size - 1, 1), (1, True))
            self.assertRaises(errors.InvalidIndex, tables.root_near, table, size, 1)
            self.assertEqual(spreads.sum_near(table, size, 1), (size, True))
            self.assertRaises(errors.InvalidNumber, spreads.sums_table, table, size + 1)
            self.assertRaises(errors.InvalidNumber, spreads.sum_near, table, size + 1, 1)


if __name__ == "__main__":
    unittest.main()
