"""Fractions: pairs (n, m) of whole numbers in lowest terms, m above 0."""

from math import gcd, lcm

NOUGHT = (0, 1)
ONE = (1, 1)


def fraction(number, under):
    """number / under in lowest terms; under is not 0."""
    shared = gcd(number, under)
    if under < 0:
        shared = -shared
    return (number // shared, under // shared)


def plus(one, other):
    return fraction(one[0] * other[1] + other[0] * one[1], one[1] * other[1])


def minus(one, other):
    return fraction(one[0] * other[1] - other[0] * one[1], one[1] * other[1])


def times(one, other):
    return fraction(one[0] * other[0], one[1] * other[1])


def over(one, other):
    """The one over the other, which is not 0."""
    return fraction(one[0] * other[1], one[1] * other[0])


def opposite_of(number):
    return (-number[0], number[1])


def is_above(one, other):
    return one[0] * other[1] > other[0] * one[1]


def shared_under(rows):
    """The least number above 0 that makes all fractions of the rows whole."""
    under = 1
    for row in rows:
        for number in row:
            under = lcm(under, number[1])
    return under


def whole_rows(rows, under):
    """The rows times under, which makes them whole, as lists of whole numbers."""
    return [[number[0] * (under // number[1]) for number in row] for row in rows]


def whole_row(row):
    """The row times the least number above 0 that makes it whole."""
    return whole_rows((row,), shared_under((row,)))[0]


def fraction_row(row, under):
    """The row of whole numbers over under, as a row of fractions."""
    return tuple(fraction(number, under) for number in row)


def whole_less(table, number):
    """The table less number along, times a number above 0 that makes it whole; and this one."""
    under = lcm(shared_under(table), number[1])
    rows = whole_rows(table, under)
    step = number[0] * (under // number[1])
    for place in range(len(rows)):
        rows[place][place] -= step
    return rows, under
