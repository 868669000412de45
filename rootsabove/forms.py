"""Tables of fractions put together: of numbers along, of other tables, of squares."""

from math import lcm

from rootsabove.quotients import NOUGHT, fraction_row, opposite_of, plus, shared_under, whole_rows


def along_table(numbers):
    """The table with the numbers along and 0 beside."""
    size = len(numbers)
    return tuple(tuple([numbers[i] if i == j else NOUGHT for j in range(size)]) for i in range(size))


def sum_of_tables(one, other):
    return tuple(tuple([plus(a, b) for a, b in zip(row, more)]) for row, more in zip(one, other))


def less_along(table, number):
    """The table with the number taken off each number along."""
    return sum_of_tables(table, along_table([opposite_of(number)] * len(table)))


def joined(table, border, corner):
    """The whole table: the table, the border turned over beside it, the border below it, and the corner."""
    columns = list(zip(*border))
    upper = [row + beside for row, beside in zip(table, columns)]
    lower = [row + beside for row, beside in zip(border, corner)]
    return tuple(upper + lower)


def table_of_squares(squares):
    """The table whose worth at each row x is the sum of FRACTION * (ROW . x) * (ROW . x) over the squares."""
    parts = [whole_square(share, row) for share, row in squares]
    under = 1
    for part in parts:
        under = lcm(under, part[1])
    size = len(parts[0][2])
    found = [[0] * size for _ in range(size)]
    for number, lower, row in parts:
        for i in range(size):
            for j in range(size):
                found[i][j] += number * (under // lower) * row[i] * row[j]
    return tuple(fraction_row(row, under) for row in found)


def whole_square(share, row):
    """The square as number / under times that of a row of whole numbers."""
    under = shared_under((row,))
    return share[0], share[1] * under * under, whole_rows((row,), under)[0]


def opposite_table(table):
    return tuple(tuple([opposite_of(number) for number in row]) for row in table)
