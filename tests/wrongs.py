"""What is wrong for an argument, with the class of its error and what the error keeps."""

from byhand import FIGURES

NIL, HALF, ONE, TWO, THREE, LESS = (0, 1), (1, 2), (1, 1), (2, 1), (3, 1), (-1, 1)
PAIR = ((TWO, ONE), (ONE, TWO))
CROSS = ((NIL, ONE, NIL), (ONE, NIL, NIL), (NIL, NIL, (5, 1)))


class Own:
    """A thing that is no part of any told form, and is equal to all."""

    def __eq__(self, other):
        return True

    __hash__ = None


def nested(value, depth):
    for _ in range(depth):
        value = (value,)
    return value


ANYTHING = (None, True, False, -1, "text", "", b"bytes", b"", [], [1], {}, {1: 2}, set(), {1, 2}, frozenset(), Own(),
            Own, len, object(), nested((), 14), nested(1, 14), nested([], 13), ("a", "b"), (None, None), ((), ()),
            ([], []), ({}, {}), range(2), 10 ** 500, -10 ** 500)
NO_ROWS = ANYTHING + (0, 1, (), (1,), (1, 2, 3), [1, 2], (2, 4), (0, 2), (0, 0), (1, 0), (1, -1), (1, -2),
                      (-1, -2), (True, 1), (1, True), (False, 1), ("1", 2), (1, "2"), (None, 1), (1, None),
                      ((1, 1), 1), (1, (1, 1)), "12", {1: 1, 2: 2}, (10 * FIGURES, 5))
NO_FRACTIONS = NO_ROWS + (((1, 1), (1, 1)),)


def not_told(value):
    """The value told as a list in the place of one of its tuples."""
    if type(value) is not tuple:
        return []
    found = [list(value)]
    for place, part in enumerate(value):
        found += [value[:place] + (other,) + value[place + 1:] for other in not_told(part)]
    return found


NO_TABLES = ANYTHING + tuple(not_told(PAIR)) + (
    0, 1, (), ((),), ((), ()), ONE, (ONE,), (ONE, ONE), ((ONE, ONE),), ((ONE,), (ONE,)), ((ONE, TWO), (ONE, TWO)),
    ((ONE, NIL), (NIL,)), ((ONE, NIL), (NIL, ONE, ONE)), ((ONE, NIL, NIL), (NIL, ONE, NIL)),
    tuple(tuple(ONE if i == j else NIL for j in range(6)) for i in range(6)),
    (((2, 2),),), (((0, 2),),), (((1, 0),),), (((1, -1),),), (((True, 1),),), (((1, True),),), ((1,),), (("ab",),),
    ((ONE, (2, 4)), ((2, 4), ONE)), ((ONE, (1, 2)), ((2, 4), ONE)), ((ONE, None), (None, ONE)),
    ((ONE, (1, 2)), ((-1, 2), ONE)), (((FIGURES * 10, 5),),), {0: (ONE,)}, ("ab", "ba"), (PAIR, PAIR),
)
NO_WHOLES = ANYTHING + ((), (1,), ONE, "1", [0])


def given(name, values):
    return [(value, name, value) for value in values]


def at(name, pairs):
    return [(value, name, index) for value, index in pairs]


def instead(value, place, part):
    return value[:place] + (part,) + value[place + 1:]


TABLE = given("InvalidTable", NO_TABLES)
FRACTION = given("InvalidFraction", NO_FRACTIONS)
INDEX = given("InvalidIndex", NO_WHOLES + (2, 3))
MANY = given("InvalidNumber", NO_WHOLES + (0, 1001, -1, 2000))
SIZE = given("InvalidNumber", NO_WHOLES + (0, 3, 4, -1))

ROOTS = (THREE, ONE, NIL)
WRONG_ROOTS = at("InvalidRoots", (
    [(value, None) for value in (None, True, 0, 1, "abc", "", b"abc", [], list(ROOTS), {}, {1, 2, 3}, Own(), (),
                                 (NIL,) * 7, (NIL,) * 200, ("a",) * 7)]
    + [(instead(ROOTS, place, wrong), place) for place in range(3) for wrong in NO_FRACTIONS]
    + [((NIL, ONE, NIL), 1), ((THREE, ONE, TWO), 2), ((ONE, TWO, "a"), 1), ((ONE, "a", TWO), 1), ((HALF, (2, 3)), 1),
       (((-1, 2), (-1, 3)), 1), ((NIL,) * 5 + ((1, FIGURES),), 5), (("a",) * 6, 0), ((None, None), 0)]))

DIAGONAL = (TWO, ONE, ONE)
WRONG_DIAGONAL = at("InvalidRow", (
    [(value, None) for value in (None, True, 3, "abc", b"abc", [], list(DIAGONAL), {1: 1, 2: 2, 3: 3}, {1, 2, 3},
                                 Own(), (), (ONE,), (ONE, ONE), (ONE,) * 4, ("a",) * 4)]
    + [(instead(DIAGONAL, place, wrong), place) for place in range(3) for wrong in NO_FRACTIONS]
    + [((None, "a", ONE), 0), ((ONE, "a", None), 1)]))
WRONG_ROW = at("InvalidRow", (
    [(value, None) for value in (None, True, 3, "abc", b"abc", [], [ONE], {}, Own(), (), (ONE,) * 7, ("a",) * 8)]
    + [(instead(DIAGONAL, place, wrong), place) for place in range(3) for wrong in NO_FRACTIONS]
    + [((None,), 0), ((ONE,) * 5 + ("a",), 5)]))

TURN = (0, 2, HALF)
NO_TURNS = NO_FRACTIONS + (
    [0, 2, HALF], (0, 2), (0, 2, HALF, HALF), (0, 0, HALF), (2, 2, ONE), (0, 3, HALF), (3, 0, HALF), (-1, 0, HALF),
    (0, -1, HALF), (True, 2, HALF), (0, True, HALF), (False, 1, HALF), ("0", 1, HALF), (0, None, HALF), (0, 2, [1, 2]),
    (0, 2, (-1, 2)), (0, 2, (3, 2)), (0, 2, (2, 1)), (0, 2, (2, 4)), (0, 2, (1, -2)), (0, 2, 1), (0, 2, 0),
    (0, 2, True), (0, 2, None), (0, 2, (1, 0)), (0, 2, (FIGURES + 1, FIGURES)), (0, 2, (-1, FIGURES)), ((0, 2), 1, HALF),
)
WRONG_TURNS = at("InvalidTurns", (
    [(value, None) for value in (None, True, 0, "abc", "", b"", [], [TURN], {}, {1, 2}, Own())]
    + [((wrong,), 0) for wrong in NO_TURNS] + [((TURN, TURN, wrong, TURN), 2) for wrong in NO_TURNS]
    + [((wrong, None), 0) for wrong in NO_TURNS] + [(TURN, 0), ((TURN, None, "a"), 1)]))

ROWS = ((ONE, NIL), (ONE, TWO))
WRONG_ROWS = at("InvalidRows", (
    [(value, None) for value in (None, True, 0, "abc", "", b"", [], list(ROWS), {}, {1, 2}, Own(), ())]
    + [((wrong,), 0) for wrong in NO_ROWS + ((ONE,), (ONE,) * 3, [ONE, ONE], (ONE, 1), (ONE, (2, 4)), (NIL, NIL))]
    + [((ROWS[0], wrong), 1) for wrong in NO_ROWS + ((ONE,), (ONE,) * 3, [ONE, ONE], (ONE, None), (NIL, NIL))]
    + [(((ONE, TWO), (HALF, ONE)), 1), (((ONE, TWO), (NIL, NIL), None), 1), ((ROWS[0], ROWS[1], (THREE, HALF)), 2),
       ((ROWS[0], ROWS[1], None), 2), ((ROWS[0], ROWS[0], None), 1), (((NIL, NIL), None), 0), (ROWS[0], 0),
       ((ROWS[0],) * 7, 1), (((FIGURES, 1), (1, FIGURES)), 0), ((((1, FIGURES), ONE), (ONE, (FIGURES, 1))), 1)]))

# Wrong beside LOW, the mean and the counts, as they stand in test_arguments.
LOW, MEAN, COUNTS, TRIAL = HALF, ONE, (2, 0, 1), (1, 1, 0)
HIGH = given("InvalidFraction", NO_FRACTIONS + (NIL, LESS, (1, 3), (FIGURES, 2 * FIGURES + 1), (-FIGURES, 1)))
SPREAD = given("InvalidFraction", NO_FRACTIONS + (LESS, (-1, FIGURES), (-FIGURES, 1)))
MOST = given("InvalidFraction", NO_FRACTIONS + (ONE, TWO, (FIGURES + 1, FIGURES), (FIGURES, 1)))
NO_COUNTS = NO_WHOLES + (
    [1, 0, 1], (1, 0), (1, 0, 1, 0), (0, 0, 0), (6, 0, 0), (0, 6, 0), (2, 2, 2), (1, 0, 5), (-1, 1, 1), (1, -1, 1),
    (1, 1, -1), (6, 0, -1), (True, 0, 1), (1, False, 1), (1, 0, True), (1, None, 1), ("1", 0, 1), (1, 0, (1,)),
    (1, [], 1), (ONE, NIL, ONE), ((1, 0, 1),), "101", b"101", {1: 1, 2: 2, 3: 3}, range(3), (1, 0, FIGURES),
    (FIGURES, -FIGURES, 1), (1, 0, 10 ** 500), (None, None, None), (1, Own(), 1),
)
WRONG_COUNTS = given("InvalidCounts", NO_COUNTS)
WRONG_TRIAL = given("InvalidCounts", NO_COUNTS + ((2, 0, 2), (4, 0, 0), (0, 4, 0), (1, 1, 2), (5, 0, 0)))

TRIED = (ONE, NIL)
WRONG_TRIED = at("InvalidRow", (
    [(value, None) for value in (None, True, 2, "ab", b"ab", "", [], list(TRIED), {1: 1, 2: 2}, {1, 2}, Own(), (),
                                 (ONE,), (ONE, NIL, NIL), ("a",), ("a",) * 3, (NIL,), (NIL,) * 3)]
    + [(instead(TRIED, place, wrong), place) for place in range(2) for wrong in NO_FRACTIONS]
    + [((NIL, NIL), None), ((NIL, "a"), 1), ((None, NIL), 0), ((NIL, (0, 2)), 1), (("a", "b"), 0), (ONE, 0)]))

PLACES = (0, 2)
NO_PLACES = ANYTHING + (
    (), "1", 0, 1, -1, [0], [0, 2], (3,), (-1,), (0, 3), (-1, 0), (0, -1), (2, 0), (1, 1), (0, 0, 1), (0, 2, 1), (0, 1, 2, 3),
    (0, 1, 2, 2), (True,), (0, True), (False, 1), (True, 2), (0, None), ("0",), (0, "1"), ((0,),), (0, (1,)), (NIL, ONE),
    (0, [1]), {0: 0}, {0}, range(2), "01", b"01", (0, 10 ** 500), (0, Own()), (-3, -2, -1), (0, 1, 2, 10 ** 399),
)
WRONG_PLACES = given("InvalidPlaces", NO_PLACES)

NO_TOLD = (None, True, 0, 1, "abc", "ab", "", b"abc", b"ab", [], {}, {1, 2}, {1: 2, 3: 4}, Own(), ())


def wrong_others(good, sizes, least, most):
    """What is wrong for others: None ahead of any index for those that are too few or too many."""
    bad = [(value, None) for value in NO_TOLD + (list(good),)]
    for size in sizes:
        if not least <= size <= most:
            bad += [((NIL,) * size, None), (("a",) * size, None), ((ONE, TWO) + (NIL,) * (size - 2), None)]
        else:
            bad += [(("a",) * size, 0), ((ONE,) * (size - 1) + ((2, 2),), size - 1)]
    bad += [(instead(good, place, wrong), place) for place in range(len(good)) for wrong in NO_FRACTIONS]
    bad += [((NIL, ONE), 1), ((ONE, (FIGURES + 1, FIGURES)), 1), ((HALF, (2, 3)), 1), (("a", ONE), 0),
            ((ONE, "a"), 1), ((None, None), 0)]
    return at("InvalidRoots", bad)


# Of the roots 3, 1, 0 and of the roots 3, 1.
FEWER = wrong_others((TWO, NIL), (3, 4, 5, 6, 7, 12), 1, 2)
ONE_FEWER = wrong_others((TWO, NIL), (3, 4, 5, 6, 7, 12), 2, 2) + at("InvalidRoots", [
    ((TWO,), None), (("a",), None), ((), None)])
AS_MANY = wrong_others((TWO, NIL), (3, 4, 5, 6, 7, 12), 2, 2) + at("InvalidRoots", [
    ((TWO,), None), (("a",), None), ((TWO, ONE, NIL), None)])
ROOTS_OF_TWO = (THREE, ONE)

ALONG = (TWO, NIL, TWO)
WRONG_ALONG = at("InvalidRow", (
    [(value, None) for value in NO_TOLD + (list(ALONG), (ONE,) * 6, (ONE,) * 7, ("a",) * 6, (NIL,) * 200)]
    + [(instead(ALONG, place, wrong), place) for place in range(3) for wrong in NO_FRACTIONS]
    + [((None,), 0), ((ONE,) * 4 + ("a",), 4), (("a", None), 0)]))
SQUARES = (ONE, NIL, HALF)
WRONG_SQUARES = at("InvalidSquares", (
    [(value, None) for value in NO_TOLD + (list(SQUARES), (ONE,), (ONE, NIL), (ONE,) * 4, (ONE,) * 5, ("a",) * 2,
                                           ("a",) * 4, (LESS,) * 2, (LESS,) * 4)]
    + [(instead(SQUARES, place, wrong), place) for place in range(3)
       for wrong in NO_FRACTIONS + (LESS, (-1, FIGURES), (-FIGURES, 1))]
    + [((LESS, "a", None), 0), ((NIL, LESS, "a"), 1), ((NIL, "a", LESS), 1)]))

ROW = (ONE, NIL)
WRONG_ROW_OF_TWO = [wrong for wrong in WRONG_TRIED if wrong[0] != (NIL, NIL)]

BEFORE, CHANGE, AFTER = (2, 0, 1), (0, 1, 2), (1, 1, 1)
OF_THREE = given("InvalidCounts", NO_COUNTS + tuple(
    counts for counts in ((1, 0, 0), (1, 0, 1), (1, 1, 2), (4, 0, 0), (0, 4, 0), (0, 2, 0), (5, 0, 0), (1, 1, 3))))
OF_TWO = given("InvalidCounts", tuple(counts for counts in NO_COUNTS if counts != (1, 0, 1)) + (
    (1, 0, 0), (1, 1, 1), (3, 0, 0), (0, 0, 1), (0, 3, 0), (0, 0, 3), (2, 2, 1)))

# Of a table of two rows.
WRONG_SIZE = SPREAD
WRONG_ABOVE = given("InvalidIndex", NO_WHOLES + (3, 4, -2))
LOOSE = ((HALF, ONE), (ONE, NIL))
WRONG_BOUNDS = given("InvalidBounds", NO_TABLES + (
    ((ONE,),), ((NIL,),), CROSS, ((ONE, LESS), (LESS, ONE)), ((LESS, NIL), (NIL, ONE)), ((ONE, NIL), (NIL, LESS)),
    ((ONE, (-1, FIGURES)), ((-1, FIGURES), ONE)), (((-FIGURES, 1), NIL), (NIL, NIL))))
BORDER = ((ONE, NIL), (HALF, LESS))
WRONG_BORDER = at("InvalidBorder", (
    [(value, None) for value in NO_TOLD + (list(BORDER), (ROW,) * 4, (ROW,) * 5, (ROW,) * 200, ("a",) * 4, (None,) * 6)]
    + [((wrong,), 0) for wrong in NO_ROWS + ((ONE,), (ONE,) * 3, [ONE, ONE], (ONE, 1), (ONE, (2, 4)))]
    + [((ROW, wrong, ROW), 1) for wrong in NO_ROWS + ((ONE,), (ONE,) * 3, [ONE, ONE], (ONE, None))]
    + [((ROW, ROW, ROW[0]), 2), ((ROW, "a", None), 1), ((None, None, None), 0), (("a",) * 3, 0), (ROW, 0)]))
OF_FOUR = given("InvalidCounts", NO_COUNTS + ((1, 0, 0), (1, 0, 1), (1, 1, 1), (0, 0, 3), (2, 2, 1), (5, 0, 0)))
UP_TO_FOUR = given("InvalidCounts", NO_COUNTS + ((5, 0, 0), (0, 5, 0), (1, 1, 3), (2, 1, 2)))
UP_TO_THREE = given("InvalidCounts", NO_COUNTS + ((5, 0, 0), (0, 4, 0), (1, 1, 2), (2, 1, 1), (0, 0, 4)))
LEAST = SIZE
