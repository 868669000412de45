"""Rows spread beside roots, the turns that lead to them, sums of roots and trial sums."""

from itertools import combinations

from rootsabove.checks import (
    MOST_ROOTS, check_fraction, check_many, check_number, check_roots, check_row, check_row_up_to, check_rows,
    is_fraction, is_tuple_of, is_whole_within,
)
from rootsabove.counts import ABOVE
from rootsabove.errors import InvalidTurns
from rootsabove.quotients import (
    fraction, fraction_row, is_above, minus, plus, shared_under, times, whole_less, whole_row, whole_rows,
)
from rootsabove.tables import check_table, near
from rootsabove.wholes import dot, shortened
from rootsabove.zeros import counts_of, polynomial_of


def is_spread(roots, diagonal):
    """Whether the diagonal is spread beside the roots."""
    check_roots(roots)
    check_row(diagonal, len(roots))
    greatest, others = whole_rows((roots, diagonal), shared_under((roots, diagonal)))
    return are_spread(greatest, sorted(others, reverse=True))


def are_spread(greatest, others):
    """Whether whole numbers, both from the greatest down, are spread so."""
    ahead = 0
    for one, other in zip(greatest, others):
        ahead = ahead + one - other
        if ahead < 0:
            return False
    return ahead == 0


def turns_to(roots, diagonal):
    """Turns, at most 2 n - 2, that lead the roots to the diagonal; None if it is not spread beside them."""
    check_roots(roots)
    check_row(diagonal, len(roots))
    greatest, goal = whole_rows((roots, diagonal), shared_under((roots, diagonal)))
    levels = sorted(goal, reverse=True)
    if not are_spread(greatest, levels):
        return None
    return tuple(levelling_turns(greatest, levels) + exchanging_turns(levels, goal))


def levelling_turns(greatest, levels):
    """Turns from the one row to the other one, both from the greatest down, each of which sets one number right.

    The last number that is too great, and the first one behind it that is too little,
    are brought together until one of them is right: the row stays one from the
    greatest down, and the levels stay spread beside it (Hardy, Littlewood, Polya).
    """
    now = list(greatest)
    turns = []
    while now != levels:
        i = max(place for place in range(len(now)) if now[place] > levels[place])
        j = min(place for place in range(i, len(now)) if now[place] < levels[place])
        step = min(now[i] - levels[i], levels[j] - now[j])
        gap = now[i] - now[j]
        turns.append((i, j, fraction(gap - step, gap)))
        now[i] -= step
        now[j] += step
    return turns


def exchanging_turns(levels, goal):
    """Turns of the share 0, each of which puts one number where the goal has it, all but the last one."""
    now = list(levels)
    turns = []
    for i in range(len(now)):
        if now[i] != goal[i]:
            j = min(place for place in range(i + 1, len(now)) if now[place] == goal[i])
            turns.append((i, j, (0, 1)))
            now[i], now[j] = now[j], now[i]
    return turns


def turned(diagonal, turns):
    """The diagonal after the turns, one after the other."""
    check_row_up_to(diagonal, MOST_ROOTS)
    check_turns(turns, len(diagonal))
    now = list(diagonal)
    for i, j, share in turns:
        step = times(minus((1, 1), share), minus(now[j], now[i]))
        now[i], now[j] = plus(now[i], step), minus(now[j], step)
    return tuple(now)


def check_turns(turns, size):
    if type(turns) is not tuple:
        raise InvalidTurns(None)
    for index, turn in enumerate(turns):
        if not is_turn(turn, size):
            raise InvalidTurns(index)


def is_turn(value, size):
    if not is_tuple_of(value, 3):
        return False
    i, j, share = value
    if not is_whole_within(i, 0, size - 1) or not is_whole_within(j, 0, size - 1) or i == j:
        return False
    return is_fraction(share) and share[0] >= 0 and not is_above(share, (1, 1))


def sums_table(table, size):
    """The table of the sums of as many indexes: its roots are the sums of so many roots of the table."""
    check_table(table)
    check_number(size, len(table))
    lots = list(combinations(range(len(table)), size))
    under = shared_under(table)
    whole = whole_rows(table, under)
    rows = [[sums_number(whole, one, other) for other in lots] for one in lots]
    return tuple(fraction_row(row, under) for row in rows)


def sums_number(whole, one, other):
    """The number of the table of the sums at two lots, of a table of whole numbers."""
    if one == other:
        return sum(whole[i][i] for i in one)
    places = lone_places(one, other)
    if len(places) > 1:
        return 0
    place, place_other = places[0], lone_places(other, one)[0]
    number = whole[one[place]][other[place_other]]
    if (place + place_other) % 2 == 1:
        return -number
    return number


def lone_places(one, other):
    """The places in the one lot of the indexes that the other lot has not."""
    return [place for place, index in enumerate(one) if index not in other]


def sum_near(table, size, many):
    """The sum of so many greatest roots told near, as root_near tells it."""
    sums = sums_table(table, size)
    check_many(many)
    return near(sums, 0, many)


def is_sum_up_to(table, size, number):
    """Whether the trial sums of all so many free rows are up to the number: so is the sum of the greatest roots."""
    sums = sums_table(table, size)
    check_fraction(number)
    whole, _ = whole_less(sums, number)
    return counts_of(polynomial_of(whole))[ABOVE] == 0


def trial_sum(table, rows):
    """The trial sum of the free rows: the sum of the means of rows upright on each other of the same span."""
    check_table(table)
    check_rows(rows, len(table))
    under = shared_under(table)
    whole = whole_rows(table, under)
    found = (0, 1)
    for row in upright_rows([whole_row(row) for row in rows]):
        worth = dot(row, [dot(line, row) for line in whole])
        found = plus(found, fraction(worth, under * dot(row, row)))
    return found


def upright_rows(rows):
    """Rows of whole numbers with the same sums of multiples as the free rows, each two with the product 0."""
    found = []
    for row in rows:
        rest = row
        for other in found:
            length, shared = dot(other, other), dot(rest, other)
            rest = shortened([length * number - shared * back for number, back in zip(rest, other)])
        found.append(rest)
    return found
