"""Reckoning with Python's own Fraction, apart from the package: tables are lists of lists here."""

from fractions import Fraction
from itertools import combinations, combinations_with_replacement, permutations
from math import floor
from random import Random

FIGURES = 10 ** 399


def told(number):
    number = Fraction(number)
    return (number.numerator, number.denominator)


def row_told(row):
    return tuple(told(number) for number in row)


def table_told(table):
    return tuple(row_told(row) for row in table)


def read(pair):
    return Fraction(pair[0], pair[1])


def row_read(row):
    return [read(pair) for pair in row]


def table_read(table):
    return [row_read(row) for row in table]


def dot(one, other):
    assert len(one) == len(other)
    return sum((a * b for a, b in zip(one, other)), Fraction(0))


def led(table, row):
    return [dot(line, row) for line in table]


def less(table, number):
    return [[table[i][j] - (number if i == j else 0) for j in range(len(table))] for i in range(len(table))]


def rank(rows):
    rows = [[Fraction(number) for number in row] for row in rows]
    found = 0
    for column in range(len(rows[0]) if rows else 0):
        pivot = next((k for k in range(found, len(rows)) if rows[k][column] != 0), None)
        if pivot is None:
            continue
        rows[found], rows[pivot] = rows[pivot], rows[found]
        for k in range(found + 1, len(rows)):
            factor = rows[k][column] / rows[found][column]
            rows[k] = [a - factor * b for a, b in zip(rows[k], rows[found])]
        found += 1
    return found


def determinant(rows):
    """By the sum over all orders of the places (Leibniz)."""
    size = len(rows)
    total = Fraction(0)
    for order in permutations(range(size)):
        turned = sum(1 for a, b in combinations(order, 2) if a > b)
        part = Fraction(-1 if turned % 2 else 1)
        for i in range(size):
            part *= rows[i][order[i]]
        total += part
    return total


def polynomial(table):
    """The determinant of x - A, each order of the places multiplied out; the lowest power first."""
    size = len(table)
    total = [Fraction(0)] * (size + 1)
    for order in permutations(range(size)):
        turned = sum(1 for a, b in combinations(order, 2) if a > b)
        part = [Fraction(-1 if turned % 2 else 1)]
        for i in range(size):
            by = [-table[i][order[i]], Fraction(1 if i == order[i] else 0)]
            part = times(part, by)
        for k in range(size + 1):
            total[k] += part[k]
    return total


def times(one, other):
    found = [Fraction(0)] * (len(one) + len(other) - 1)
    for i, a in enumerate(one):
        for j, b in enumerate(other):
            found[i + j] += a * b
    return found


def from_roots(roots):
    found = [Fraction(1)]
    for root in roots:
        found = times(found, [-Fraction(root), Fraction(1)])
    return found


def changes(numbers):
    signs = [number > 0 for number in numbers if number != 0]
    return sum(1 for a, b in zip(signs, signs[1:]) if a != b)


def counts_by_signs(table, number):
    """By the signs of the polynomial with x + t, and with t - x, in the place of x."""
    size = len(table)
    numbers = polynomial(less(table, number))
    above = changes(numbers)
    below = changes([value * (-1) ** k for k, value in enumerate(numbers)])
    return (above, size - above - below, below)


def counts_by_squares(table, number):
    """By squares taken out, one row or two rows at once (Lagrange)."""
    form = less([[Fraction(value) for value in row] for row in table], number)
    size = len(form)
    above = below = 0
    while True:
        place = next((k for k in range(size) if form[k][k] != 0), None)
        if place is not None:
            worth, column = form[place][place], [row[place] for row in form]
            form = [[form[i][j] - column[i] * column[j] / worth for j in range(size)] for i in range(size)]
            above += worth > 0
            below += worth < 0
            continue
        pair = next(((i, j) for i in range(size) for j in range(i) if form[i][j] != 0), None)
        if pair is None:
            return (above, size - above - below, below)
        i, j = pair
        value, one, other = form[i][j], [row[i] for row in form], [row[j] for row in form]
        form = [[form[k][m] - (one[k] * other[m] + other[k] * one[m]) / value
                 for m in range(size)] for k in range(size)]
        above += 1
        below += 1


def shifted(numbers, step):
    """The polynomial with x + step in the place of x, each power multiplied out."""
    found, power = [Fraction(0)] * len(numbers), [Fraction(1)]
    for number in numbers:
        for k, part in enumerate(power):
            found[k] += number * part
        power = times(power, [Fraction(step), Fraction(1)])
    return found


def counts_of_polynomial(numbers, number):
    """By the signs of a polynomial with real zeros alone, with x + t, and with t - x, in the place of x."""
    size = len(numbers) - 1
    numbers = shifted(numbers, number)
    above = changes(numbers)
    below = changes([value * (-1) ** k for k, value in enumerate(numbers)])
    return (above, size - above - below, below)


def without(values, place):
    return values[:place] + values[place + 1:]


def tied_polynomial(along, squares, last):
    """Of an arrow, multiplied out: (x - LAST) times all x - ALONG, less each square times all others of these."""
    total = times(from_roots(along), [-Fraction(last), Fraction(1)])
    return less_squares(total, along, squares)


def changed_polynomial(along, squares, factor):
    """Of the table with ALONG along and FACTOR times v_i v_j at i, j, multiplied out."""
    return less_squares(from_roots(along), along, [factor * square for square in squares])


def less_squares(total, along, squares):
    for place, square in enumerate(squares):
        for k, number in enumerate(from_roots(without(list(along), place))):
            total[k] -= square * number
    return total


def reduced(rows, width):
    """The rows with 1 in one column and 0 in all other rows there, as far as there are such columns (Gauss, Jordan)."""
    rows = [[Fraction(number) for number in row] for row in rows]
    pivots = []
    for column in range(width):
        top = len(pivots)
        place = next((k for k in range(top, len(rows)) if rows[k][column] != 0), None)
        if place is None:
            continue
        rows[top], rows[place] = rows[place], rows[top]
        rows[top] = [number / rows[top][column] for number in rows[top]]
        for k in range(len(rows)):
            if k != top:
                factor = rows[k][column]
                rows[k] = [a - factor * b for a, b in zip(rows[k], rows[top])]
        pivots.append(column)
    return rows, pivots


def solution(table, goal):
    """A row that the table takes to the goal; None if there is none."""
    size = len(table)
    rows, pivots = reduced([list(line) + [value] for line, value in zip(table, goal)], size)
    if any(row[size] != 0 for row in rows[len(pivots):]):
        return None
    found = [Fraction(0)] * size
    for row, column in zip(rows, pivots):
        found[column] = row[size]
    return found


def noughts(table):
    """Free rows, as many as there are, that the table takes to noughts."""
    size = len(table)
    rows, pivots = reduced(table, size)
    found = []
    for place in range(size):
        if place not in pivots:
            row = [Fraction(int(j == place)) for j in range(size)]
            for line, column in zip(rows, pivots):
                row[column] = -line[place]
            found.append(row)
    return found


def plus_row(table, row, factor):
    """The table and the factor times v_i v_j more at i, j."""
    return [[table[i][j] + factor * row[i] * row[j] for j in range(len(row))] for i in range(len(row))]


def added(one, other):
    return [[a + b for a, b in zip(row, more)] for row, more in zip(one, other)]


def falling(values, size):
    """All rows of so many of the values, from the greatest down."""
    return [list(found)[::-1] for found in combinations_with_replacement(sorted(values), size)]


def counts_to(most):
    """Every triple of whole numbers from 0 on with a sum from 1 to most."""
    return [counts for size in range(1, most + 1) for counts in counts_of_size(size)]


def counts_of_size(size):
    return [(a, z, size - a - z) for a in range(size + 1) for z in range(size + 1 - a)]


def of_counts(source, counts):
    """A table with the counts at 0."""
    roots = ([source.choice([1, 2, Fraction(3, 2)]) for _ in range(counts[0])] + [0] * counts[1]
             + [-source.choice([1, 3, Fraction(1, 2)]) for _ in range(counts[2])])
    return planted(source, source.sample(roots, len(roots)))


def counts_of_roots(roots, number):
    return (sum(1 for root in roots if root > number), sum(1 for root in roots if root == number),
            sum(1 for root in roots if root < number))


def mirrored(table, row):
    """H A H, H being the mirror that takes the row to its opposite: alike turned over, and of the same roots."""
    size, length = len(row), dot(row, row)
    mirror = [[Fraction(i == j) - 2 * row[i] * row[j] / length for j in range(size)] for i in range(size)]
    half = [led(mirror, column) for column in table]
    return [[dot(mirror[i], [half[k][j] for k in range(size)]) for j in range(size)] for i in range(size)]


def multiplied(one, other):
    columns = [list(column) for column in zip(*other)]
    return [[dot(row, column) for column in columns] for row in one]


def seen_by(rows, table):
    """W A W': in row i at place j the product of row i and what the table takes row j to."""
    return [[dot(one, led(table, other)) for other in rows] for one in rows]


def along(numbers):
    return [[Fraction(number) if i == j else Fraction(0) for j in range(len(numbers))]
            for i, number in enumerate(numbers)]


def blocks(parts):
    """Tables one below the other along the slant."""
    size = sum(len(part) for part in parts)
    found = [[Fraction(0)] * size for _ in range(size)]
    start = 0
    for part in parts:
        for i, row in enumerate(part):
            for j, number in enumerate(row):
                found[start + i][start + j] = Fraction(number)
        start += len(part)
    return found


def mixed(source, table):
    """The table seen through two mirrors."""
    for _ in range(2):
        row = [Fraction(source.randrange(-3, 4), source.randrange(1, 4)) for _ in table]
        if any(row):
            table = mirrored(table, row)
    return table


def planted(source, roots):
    return mixed(source, along(roots))


def some_fraction(source, size=6):
    return Fraction(source.randrange(-size, size + 1), source.randrange(1, 5))


def some_table(source, size, most=3):
    found = [[Fraction(0)] * size for _ in range(size)]
    for i in range(size):
        for j in range(i + 1):
            number = some_fraction(source, most) if source.randrange(3) else Fraction(0)
            found[i][j] = found[j][i] = number
    return found


def some_rows(source, size, many):
    """Free rows."""
    while True:
        rows = [[some_fraction(source, 2) for _ in range(size)] for _ in range(many)]
        if rank(rows) == many:
            return rows


def great_fraction(source):
    return Fraction(source.randrange(-FIGURES * 10 + 1, FIGURES * 10), source.randrange(FIGURES, FIGURES * 10))


def great_table(source, size, is_whole):
    found = [[Fraction(0)] * size for _ in range(size)]
    for i in range(size):
        for j in range(i + 1):
            number = Fraction(source.randrange(-FIGURES * 10 + 1, FIGURES * 10))
            if not is_whole:
                number /= source.randrange(FIGURES, FIGURES * 10)
            found[i][j] = found[j][i] = number
    return found


def near(root, many):
    k = floor(root * many)
    return (k, root * many == k)


def source_of(seed):
    # The seed is told, so that each run tries the same.
    return Random(seed)


def is_row_of(value, size):
    return (type(value) is tuple and len(value) == size and all(is_told(pair) for pair in value))


def is_told(value):
    return (type(value) is tuple and len(value) == 2 and type(value[0]) is int and type(value[1]) is int
            and value[1] > 0 and value == told(Fraction(value[0], value[1])))
