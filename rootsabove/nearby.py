"""Tables near by: within a fraction of a table as a whole, or within bounds for each of its numbers."""

from rootsabove.checks import check_above, check_fraction, check_fraction_from, check_many
from rootsabove.counts import ABOVE, BELOW
from rootsabove.errors import InvalidBounds
from rootsabove.forms import along_table, less_along, opposite_table, sum_of_tables
from rootsabove.quotients import NOUGHT, is_above, minus, opposite_of, plus
from rootsabove.tables import check_table, is_table, near, root_counts


def check_near_by(table, number, size):
    check_table(table)
    check_fraction(number)
    check_fraction_from(size, NOUGHT)


def above_near(table, number, size):
    """The least and the greatest ABOVE, at the number, of the table and one small by the size together."""
    check_near_by(table, number, size)
    least = root_counts(table, plus(number, size))[ABOVE]
    return (least, root_counts(table, minus(number, size))[ABOVE])


def near_table(table, number, size, above):
    """A table small by the size that makes ABOVE, at the number, of both together so; None if there is none."""
    check_near_by(table, number, size)
    check_above(above, len(table))
    for first in range(len(table) + 1):
        off = along_table([size] * first + [opposite_of(size)] * (len(table) - first))
        if root_counts(sum_of_tables(table, off), number)[ABOVE] == above:
            return off
    return None


def distance_near(table, number, above, many):
    """The distance of `above` near: how great a size is wanted, or is passed, by a table that makes ABOVE so."""
    check_table(table)
    check_fraction(number)
    check_above(above, len(table))
    check_many(many)
    moved = less_along(table, number)
    now = root_counts(moved, NOUGHT)[ABOVE]
    if above == now:
        return (0, True)
    if above < now:
        return near(moved, above, many)
    # Turned over in sign, root above - 1 is as many from the end as it was from the start.
    return near(opposite_table(moved), len(table) - above, many)


def check_bounds(bounds, size):
    """Checks bounds for a table of so many rows."""
    if not is_table(bounds) or len(bounds) != size:
        raise InvalidBounds(bounds)
    if any(number[0] < 0 for row in bounds for number in row):
        raise InvalidBounds(bounds)


def check_bounded(table, bounds):
    check_table(table)
    check_bounds(bounds, len(table))


def sign_rows(size):
    """All rows of the numbers 1 and - 1, the first one 1."""
    found = [[1]]
    for _ in range(size - 1):
        found = [row + [sign] for row in found for sign in (1, -1)]
    return found


def edge_tables(table, bounds, sign):
    """The tables A + sign * zDz: among them are those within with the greatest first root, or the least last one."""
    return [sum_of_tables(table, turned_bounds(bounds, sign, row)) for row in sign_rows(len(table))]


def turned_bounds(bounds, sign, row):
    size = len(row)
    return tuple(tuple([(sign * row[i] * row[j] * bounds[i][j][0], bounds[i][j][1]) for j in range(size)])
                 for i in range(size))


def last_near(table, bounds, many):
    """The least last root of the tables within, near."""
    check_bounded(table, bounds)
    check_many(many)
    found = [near(edge, len(table) - 1, many) for edge in edge_tables(table, bounds, -1)]
    k = min([root[0] for root in found])
    # Of the roots from k / many on the least one is this number if any is.
    return (k, (k, True) in found)


def first_near(table, bounds, many):
    """The greatest first root of the tables within, near."""
    check_bounded(table, bounds)
    check_many(many)
    found = [near(edge, 0, many) for edge in edge_tables(table, bounds, 1)]
    k = max([root[0] for root in found])
    # Of the roots from k / many on the greatest one is this number if all are.
    return (k, (k, False) not in found)


def low_table(table, bounds, number):
    """A table within with a root below the number; None if there is none."""
    check_bounded(table, bounds)
    check_fraction(number)
    return with_root(edge_tables(table, bounds, -1), number, BELOW)


def high_table(table, bounds, number):
    """A table within with a root above the number; None if there is none."""
    check_bounded(table, bounds)
    check_fraction(number)
    return with_root(edge_tables(table, bounds, 1), number, ABOVE)


def with_root(tables, number, side):
    """The first table with a root at the side of the number; None if there is none."""
    for table in tables:
        if root_counts(table, number)[side] > 0:
            return table
    return None


def is_within(value, table, bounds):
    """Whether each number of the one table differs from that of the other by at most the bound."""
    size = len(table)
    for i in range(size):
        for j in range(size):
            off = minus(value[i][j], table[i][j])
            if is_above((abs(off[0]), off[1]), bounds[i][j]):
                return False
    return True
