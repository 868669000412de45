"""[3], [4], [5]: arguments by position and by name, what is wrong with them, and that they stay as they are."""

import copy
import inspect
import unittest

from byhand import FIGURES
from rootsabove import errors, spreads, tables

NIL, HALF, ONE, TWO, THREE, LESS = (0, 1), (1, 2), (1, 1), (2, 1), (3, 1), (-1, 1)
PAIR = ((TWO, ONE), (ONE, TWO))
CROSS = ((NIL, ONE, NIL), (ONE, NIL, NIL), (NIL, NIL, (5, 1)))


class Own:
    """A thing that is no part of any told form, and is equal to all."""

    def __eq__(self, other):
        return True

    __hash__ = None


def nested(value, depth):
    for _ in range(depth):
        value = (value,)
    return value


ANYTHING = (None, True, False, -1, "text", "", b"bytes", b"", [], [1], {}, {1: 2}, set(), {1, 2}, frozenset(), Own(),
            Own, len, object(), nested((), 14), nested(1, 14), nested([], 13), ("a", "b"), (None, None), ((), ()),
            ([], []), ({}, {}), range(2), 10 ** 500, -10 ** 500)
NO_ROWS = ANYTHING + (0, 1, (), (1,), (1, 2, 3), [1, 2], (2, 4), (0, 2), (0, 0), (1, 0), (1, -1), (1, -2),
                      (-1, -2), (True, 1), (1, True), (False, 1), ("1", 2), (1, "2"), (None, 1), (1, None),
                      ((1, 1), 1), (1, (1, 1)), "12", {1: 1, 2: 2}, (10 * FIGURES, 5))
NO_FRACTIONS = NO_ROWS + (((1, 1), (1, 1)),)


def not_told(value):
    """The value told as a list in the place of one of its tuples."""
    if type(value) is not tuple:
        return []
    found = [list(value)]
    for place, part in enumerate(value):
        found += [value[:place] + (other,) + value[place + 1:] for other in not_told(part)]
    return found


NO_TABLES = ANYTHING + tuple(not_told(PAIR)) + (
    0, 1, (), ((),), ((), ()), ONE, (ONE,), (ONE, ONE), ((ONE, ONE),), ((ONE,), (ONE,)), ((ONE, TWO), (ONE, TWO)),
    ((ONE, NIL), (NIL,)), ((ONE, NIL), (NIL, ONE, ONE)), ((ONE, NIL, NIL), (NIL, ONE, NIL)),
    tuple(tuple(ONE if i == j else NIL for j in range(6)) for i in range(6)),
    (((2, 2),),), (((0, 2),),), (((1, 0),),), (((1, -1),),), (((True, 1),),), (((1, True),),), ((1,),), (("ab",),),
    ((ONE, (2, 4)), ((2, 4), ONE)), ((ONE, (1, 2)), ((2, 4), ONE)), ((ONE, None), (None, ONE)),
    ((ONE, (1, 2)), ((-1, 2), ONE)), (((FIGURES * 10, 5),),), {0: (ONE,)}, ("ab", "ba"), (PAIR, PAIR),
)
NO_WHOLES = ANYTHING + ((), (1,), ONE, "1", [0])


def given(name, values):
    return [(value, name, value) for value in values]


def at(name, pairs):
    return [(value, name, index) for value, index in pairs]


def instead(value, place, part):
    return value[:place] + (part,) + value[place + 1:]


TABLE = given("InvalidTable", NO_TABLES)
FRACTION = given("InvalidFraction", NO_FRACTIONS)
INDEX = given("InvalidIndex", NO_WHOLES + (2, 3))
MANY = given("InvalidNumber", NO_WHOLES + (0, 1001, -1, 2000))
SIZE = given("InvalidNumber", NO_WHOLES + (0, 3, 4, -1))

ROOTS = (THREE, ONE, NIL)
WRONG_ROOTS = at("InvalidRoots", (
    [(value, None) for value in (None, True, 0, 1, "abc", "", b"abc", [], list(ROOTS), {}, {1, 2, 3}, Own(), (),
                                 (NIL,) * 7, (NIL,) * 200, ("a",) * 7)]
    + [(instead(ROOTS, place, wrong), place) for place in range(3) for wrong in NO_FRACTIONS]
    + [((NIL, ONE, NIL), 1), ((THREE, ONE, TWO), 2), ((ONE, TWO, "a"), 1), ((ONE, "a", TWO), 1), ((HALF, (2, 3)), 1),
       (((-1, 2), (-1, 3)), 1), ((NIL,) * 5 + ((1, FIGURES),), 5), (("a",) * 6, 0), ((None, None), 0)]))

DIAGONAL = (TWO, ONE, ONE)
WRONG_DIAGONAL = at("InvalidRow", (
    [(value, None) for value in (None, True, 3, "abc", b"abc", [], list(DIAGONAL), {1: 1, 2: 2, 3: 3}, {1, 2, 3},
                                 Own(), (), (ONE,), (ONE, ONE), (ONE,) * 4, ("a",) * 4)]
    + [(instead(DIAGONAL, place, wrong), place) for place in range(3) for wrong in NO_FRACTIONS]
    + [((None, "a", ONE), 0), ((ONE, "a", None), 1)]))
WRONG_ROW = at("InvalidRow", (
    [(value, None) for value in (None, True, 3, "abc", b"abc", [], [ONE], {}, Own(), (), (ONE,) * 7, ("a",) * 8)]
    + [(instead(DIAGONAL, place, wrong), place) for place in range(3) for wrong in NO_FRACTIONS]
    + [((None,), 0), ((ONE,) * 5 + ("a",), 5)]))

TURN = (0, 2, HALF)
NO_TURNS = NO_FRACTIONS + (
    [0, 2, HALF], (0, 2), (0, 2, HALF, HALF), (0, 0, HALF), (2, 2, ONE), (0, 3, HALF), (3, 0, HALF), (-1, 0, HALF),
    (0, -1, HALF), (True, 2, HALF), (0, True, HALF), (False, 1, HALF), ("0", 1, HALF), (0, None, HALF), (0, 2, [1, 2]),
    (0, 2, (-1, 2)), (0, 2, (3, 2)), (0, 2, (2, 1)), (0, 2, (2, 4)), (0, 2, (1, -2)), (0, 2, 1), (0, 2, 0),
    (0, 2, True), (0, 2, None), (0, 2, (1, 0)), (0, 2, (FIGURES + 1, FIGURES)), (0, 2, (-1, FIGURES)), ((0, 2), 1, HALF),
)
WRONG_TURNS = at("InvalidTurns", (
    [(value, None) for value in (None, True, 0, "abc", "", b"", [], [TURN], {}, {1, 2}, Own())]
    + [((wrong,), 0) for wrong in NO_TURNS] + [((TURN, TURN, wrong, TURN), 2) for wrong in NO_TURNS]
    + [((wrong, None), 0) for wrong in NO_TURNS] + [(TURN, 0), ((TURN, None, "a"), 1)]))

ROWS = ((ONE, NIL), (ONE, TWO))
WRONG_ROWS = at("InvalidRows", (
    [(value, None) for value in (None, True, 0, "abc", "", b"", [], list(ROWS), {}, {1, 2}, Own(), ())]
    + [((wrong,), 0) for wrong in NO_ROWS + ((ONE,), (ONE,) * 3, [ONE, ONE], (ONE, 1), (ONE, (2, 4)), (NIL, NIL))]
    + [((ROWS[0], wrong), 1) for wrong in NO_ROWS + ((ONE,), (ONE,) * 3, [ONE, ONE], (ONE, None), (NIL, NIL))]
    + [(((ONE, TWO), (HALF, ONE)), 1), (((ONE, TWO), (NIL, NIL), None), 1), ((ROWS[0], ROWS[1], (THREE, HALF)), 2),
       ((ROWS[0], ROWS[1], None), 2), ((ROWS[0], ROWS[0], None), 1), (((NIL, NIL), None), 0), (ROWS[0], 0),
       ((ROWS[0],) * 7, 1), (((FIGURES, 1), (1, FIGURES)), 0), ((((1, FIGURES), ONE), (ONE, (FIGURES, 1))), 1)]))

PARAMETERS = (
    (tables.root_counts, (("table", PAIR, TABLE), ("number", HALF, FRACTION))),
    (tables.squares_of, (("table", PAIR, TABLE), ("number", HALF, FRACTION))),
    (tables.polynomial, (("table", PAIR, TABLE),)),
    (tables.corner_minors, (("table", PAIR, TABLE), ("number", HALF, FRACTION))),
    (tables.rows_at, (("table", PAIR, TABLE), ("number", ONE, FRACTION))),
    (tables.root_near, (("table", PAIR, TABLE), ("index", 1, INDEX), ("many", 7, MANY))),
    (tables.likes, (("table", PAIR, TABLE),)),
    (spreads.is_spread, (("roots", ROOTS, WRONG_ROOTS), ("diagonal", DIAGONAL, WRONG_DIAGONAL))),
    (spreads.turns_to, (("roots", ROOTS, WRONG_ROOTS), ("diagonal", DIAGONAL, WRONG_DIAGONAL))),
    (spreads.turned, (("diagonal", DIAGONAL, WRONG_ROW), ("turns", (TURN, (1, 0, NIL)), WRONG_TURNS))),
    (spreads.sums_table, (("table", PAIR, TABLE), ("size", 1, SIZE))),
    (spreads.sum_near, (("table", PAIR, TABLE), ("size", 2, SIZE), ("many", 3, MANY))),
    (spreads.trial_sum, (("table", PAIR, TABLE), ("rows", ROWS, WRONG_ROWS))),
)
EXAMPLES = PARAMETERS + ((tables.is_table, (("value", PAIR, []),)),)


class Arguments(unittest.TestCase):
    def check_error(self, call, arguments, name, told):
        try:
            call(*arguments)
        except errors.RootError as error:
            self.assertIs(type(error), getattr(errors, name))
            if name in ("InvalidTable", "InvalidFraction", "InvalidIndex", "InvalidNumber"):
                self.assertIs(error.given, told)
            else:
                self.assertIs(type(error.index), type(told))
                self.assertEqual(error.index, told)
        else:
            self.fail("no error")

    def test_signatures(self):
        for call, parameters in EXAMPLES:
            with self.subTest(call.__name__):
                self.assertEqual(list(inspect.signature(call).parameters), [name for name, _, _ in parameters])

    def test_each_wrong_argument(self):
        for call, parameters in PARAMETERS:
            good = [value for _, value, _ in parameters]
            for place, (parameter, _, wrong) in enumerate(parameters):
                for number, (value, name, told) in enumerate(wrong):
                    with self.subTest(call=call.__name__, parameter=parameter, number=number):
                        self.check_error(call, good[:place] + [value] + good[place + 1:], name, told)

    def test_errors_of_later_arguments_wait(self):
        for call, parameters in PARAMETERS:
            good = [value for _, value, _ in parameters]
            for place, (parameter, _, wrong) in enumerate(parameters):
                for number, (value, name, told) in enumerate(wrong[::7]):
                    later = [others[number % len(others)][0] for _, _, others in parameters[place + 1:]]
                    with self.subTest(call=call.__name__, parameter=parameter, number=number):
                        self.check_error(call, good[:place] + [value] + later, name, told)

    def test_is_table_takes_anything(self):
        for number, value in enumerate(NO_TABLES + NO_FRACTIONS + NO_WHOLES):
            with self.subTest(number=number):
                self.assertIs(tables.is_table(value), False)

    def test_by_name(self):
        for call, parameters in EXAMPLES:
            by_place = call(*[value for _, value, _ in parameters])
            with self.subTest(call.__name__):
                self.assertEqual(call(**{name: value for name, value, _ in parameters}), by_place)
                self.assertEqual(call(**{name: value for name, value, _ in parameters[::-1]}), by_place)
                first, rest = parameters[0], parameters[1:]
                self.assertEqual(call(first[1], **{name: value for name, value, _ in rest}), by_place)

    def test_by_name_errors(self):
        for call, parameters in PARAMETERS:
            for parameter, _, wrong in parameters:
                value, name, told = wrong[0]
                arguments = {other: good for other, good, _ in parameters}
                arguments[parameter] = value
                with self.subTest(call=call.__name__, parameter=parameter):
                    self.check_error(lambda: call(**arguments), (), name, told)

    def test_equal_calls(self):
        for call, parameters in EXAMPLES:
            with self.subTest(call.__name__):
                one = call(*[value for _, value, _ in parameters])
                other = call(*[copy.deepcopy(value) for _, value, _ in parameters])
                self.assertEqual(one, other)
                self.assertEqual(repr(one), repr(other))

    def test_arguments_stay(self):
        for call, parameters in PARAMETERS:
            good = [value for _, value, _ in parameters]
            shown = repr(good)
            call(*good)
            self.assertEqual(repr(good), shown)
            for place, (_, _, wrong) in enumerate(parameters):
                for number, (value, name, _) in enumerate(wrong):
                    shown = repr(value)
                    arguments = good[:place] + [value] + good[place + 1:]
                    with self.subTest(call=call.__name__, place=place, number=number):
                        self.assertRaises(getattr(errors, name), call, *arguments)
                        self.assertEqual(repr(value), shown)

    def test_defined_where_listed(self):
        for call, _ in EXAMPLES:
            self.assertIn(call.__module__, ("rootsabove.tables", "rootsabove.spreads"))
            self.assertEqual(call.__module__ == "rootsabove.tables", hasattr(tables, call.__name__))


class Limits(unittest.TestCase):
    def test_let_values_pass(self):
        self.assertEqual(tables.root_near(PAIR, 0, 1), (3, True))
        self.assertEqual(tables.root_near(PAIR, 1, 1000), (1000, True))
        self.assertEqual(spreads.turned((ONE,), ()), (ONE,))
        self.assertEqual(spreads.turned((ONE,) * 6, ((0, 5, NIL), (5, 4, ONE))), (ONE,) * 6)
        self.assertIs(spreads.is_spread((ONE,) * 6, (ONE,) * 6), True)
        self.assertIs(spreads.is_spread((LESS,), (ONE,)), False)
        self.assertEqual(spreads.sums_table(PAIR, 1), PAIR)
        self.assertEqual(spreads.sums_table(PAIR, 2), (((4, 1),),))
        self.assertEqual(spreads.sums_table(CROSS, 3), (((5, 1),),))

    def test_one_row_has_no_turn(self):
        for turn in ((0, 0, ONE), (0, 1, ONE), (1, 0, NIL), (0, -1, ONE)):
            with self.assertRaises(errors.InvalidTurns) as caught:
                spreads.turned((ONE,), (turn,))
            self.assertEqual(caught.exception.index, 0)

    def test_size_and_index_hang_on_the_table(self):
        for size in range(1, 6):
            table = tuple(tuple(ONE if i == j else NIL for j in range(size)) for i in range(size))
            self.assertIs(tables.is_table(table), True)
            self.assertEqual(tables.root_near(table, size - 1, 1), (1, True))
            self.assertRaises(errors.InvalidIndex, tables.root_near, table, size, 1)
            self.assertEqual(spreads.sum_near(table, size, 1), (size, True))
            self.assertRaises(errors.InvalidNumber, spreads.sums_table, table, size + 1)
            self.assertRaises(errors.InvalidNumber, spreads.sum_near, table, size + 1, 1)


if __name__ == "__main__":
    unittest.main()
