"""Rows and tables of whole numbers: free rows, rows taken to noughts, squares taken out."""

from itertools import combinations
from math import gcd

from rootsabove.quotients import fraction


def dot(one, other):
    return sum(a * b for a, b in zip(one, other))


def multiplied(one, other):
    """The product of two tables."""
    columns = list(zip(*other))
    return [[dot(row, column) for column in columns] for row in one]


def content(row):
    """The greatest number that divides all of the row; 0 for noughts."""
    shared = 0
    for number in row:
        shared = gcd(shared, number)
    return shared


def shortened(row):
    """The row over its content, so that numbers do not grow more than they must."""
    shared = content(row)
    if shared < 2:
        return list(row)
    return [number // shared for number in row]


def unit_row(size, places):
    """The row of the size with 1 at the places, 0 elsewhere."""
    return [1 if place in places else 0 for place in range(size)]


def first_place(row):
    """The place of the first number of the row that is not 0."""
    return min(place for place, number in enumerate(row) if number)


def rest_beside(row, leads):
    """The row, times a number, less such multiples of the leads that it has 0 in their first places.

    Each lead has 0 in the first places of those ahead of it. So the rest is noughts
    exactly if the row is a sum of multiples of the leads, and may be the next lead if not.
    """
    rest = shortened(row)
    for lead in leads:
        place = first_place(lead)
        if rest[place]:
            head, back = lead[place], rest[place]
            rest = shortened([head * number - back * led for number, led in zip(rest, lead)])
    return rest


def leads_of(rows):
    """Leads, each one with 0 in the first places of those ahead, with the same sums of multiples as the rows."""
    leads = []
    for row in rows:
        rest = rest_beside(row, leads)
        if any(rest):
            leads.append(rest)
    return leads


def rows_beside(rows, size):
    """Rows with one number 1, the others 0, that are free together with the rows, and with them as many as the size."""
    leads = leads_of(rows)
    found = []
    for place in range(size):
        row = unit_row(size, (place,))
        rest = rest_beside(row, leads)
        if any(rest):
            leads.append(rest)
            found.append(row)
    return found


def noughts_under(rows, size):
    """As many free rows of the size as there are that have the product 0 with each of the rows."""
    leads = leads_of(rows)
    return [crossed(unit_row(size, (place,)), leads) for place in places_left(leads, size)]


def places_left(leads, size):
    """The places that are the first one of no lead."""
    taken = [first_place(lead) for lead in leads]
    return [place for place in range(size) if place not in taken]


def crossed(row, leads):
    """The row, times a number, with the product 0 with each lead, by other numbers in their first places.

    The row has 0 there. The last lead comes first: what is put in the first place
    of a lead changes no product with the leads behind it, which have 0 there.
    """
    for lead in reversed(leads):
        place = first_place(lead)
        back = dot(row, lead)
        row = [lead[place] * number for number in row]
        row[place] = -back
        row = shortened(row)
    return row


def solved(table, goal):
    """A row x and a number other than 0 such that the table takes x to the goal times the number; None for none."""
    size = len(table)
    found = noughts_under([list(line) + [-number] for line, number in zip(table, goal)], size + 1)
    # Only the row that has its place at the end has a number there: it comes last, if it comes.
    if len(found) == 0 or found[-1][size] == 0:
        return None
    return found[-1][:size], found[-1][size]


def tried_row(table):
    """A row at which the worth of the table is not 0; None if there is none."""
    size = len(table)
    for place in range(size):
        if table[place][place]:
            return unit_row(size, (place,))
    for i, j in combinations(range(size), 2):
        if table[i][j]:
            # With 0 along the worth is twice the number beside.
            return unit_row(size, (i, j))
    return None


def squares_taken(table):
    """Pairs (fraction, row), as many as the rank: the worth of the table at x is the sum of fraction * (row . x)^2.

    Less the square of (A v) . x over v . (A v), a table A takes the row v to noughts
    beside all that it took there already: each square lessens the rank by 1.
    """
    found = []
    number, under = 1, 1
    row = tried_row(table)
    while row is not None:
        # What is left to take out is the table times number / under.
        led = [dot(line, row) for line in table]
        worth = dot(led, row)
        shared = content(led)
        found.append((fraction(number * shared * shared, under * worth), shortened(led)))
        left = [[worth * line[j] - led[i] * led[j] for j in range(len(led))] for i, line in enumerate(table)]
        # The content is 0 where nothing is left.
        shared = max(1, content([content(line) for line in left]))
        table = [[element // shared for element in line] for line in left]
        number, under = fraction(number * shared, under * worth)
        row = tried_row(table)
    return found


def opposite(table):
    return [[-number for number in row] for row in table]


def rows_of_worth_from_nought(table):
    """As many free rows as there are of a worth of the table from 0 on: those beside the squares below 0."""
    taken = squares_taken(table)
    return noughts_under([row for share, row in taken if share[0] < 0], len(table))


def rows_of_worth_below_nought(table):
    """As many free rows as there are of a worth of the table below 0.

    They have the product 0 with the rows of all other squares, those of 0 included:
    other than noughts they have a product with the row of a square below 0.
    """
    taken = squares_taken(table)
    others = rows_beside([row for _, row in taken], len(table))
    return noughts_under([row for share, row in taken if share[0] > 0] + others, len(table))
