"""Tables that are tried: with told roots, with any numbers, with great ones."""

from fractions import Fraction

import byhand
from byhand import source_of

ROOTS = (
    [0], [Fraction(-7, 3)], [0, 0], [1, -1], [Fraction(5, 2)] * 2, [3, 0, -3], [0, 0, 0], [2, 2, -1], [4, -1, -1],
    [1, 1, 1], [1, 0, 0, -1], [2, 2, 2, 2], [5, 1, 1, -3], [3, 3, -2, -2], [Fraction(1, 2), Fraction(1, 3), 0, 0],
    [0, 0, 0, 0, 0], [2, 1, 0, -1, -2], [3, 3, 3, -1, -1], [1, 1, 0, 0, 0], [Fraction(9, 4), 1, 1, 1, -6],
    [Fraction(1, 7), Fraction(1, 8), Fraction(1, 9), 0, -1], [-1, -2, -3, -4, -5],
)
GOLDEN = [[0, 1], [1, 1]]
SILVER = [[0, 1], [1, 2]]


def planted_tables():
    source = source_of(1)
    for roots in ROOTS:
        yield roots, byhand.along(roots)
        for _ in range(3):
            order = source.sample(roots, len(roots))
            yield roots, byhand.planted(source, order)


def other_tables(seed=2, many=12):
    source = source_of(seed)
    for size in range(1, 6):
        for _ in range(many):
            yield byhand.some_table(source, size)
    swap = [[0, 1], [1, 0]]
    for table in (swap, byhand.blocks([swap, swap]), byhand.blocks([swap, [[0]], swap]), byhand.blocks([GOLDEN, SILVER]),
                  [[0, 1, 1], [1, 0, 1], [1, 1, 0]], [[0, 0, 1], [0, 0, 0], [1, 0, 0]],
                  [[0, 1, 0, 0], [1, 0, 1, 0], [0, 1, 0, 1], [0, 0, 1, 0]], [[1] * 5] * 5, [[0] * 4] * 4,
                  [[0, 1, 2, 3, 4], [1, 0, 5, 6, 7], [2, 5, 0, 8, 9], [3, 6, 8, 0, 1], [4, 7, 9, 1, 0]]):
        yield [[Fraction(number) for number in row] for row in table]


def great_tables():
    source = source_of(3)
    for size in (1, 2, 3, 5):
        yield byhand.great_table(source, size, True)
    for size in (1, 2, 3):
        yield byhand.great_table(source, size, False)
