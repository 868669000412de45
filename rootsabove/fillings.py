"""Fillings: what counts a table with a border may have, for all corners; borders and corners of told counts."""

from rootsabove.checks import MOST_ROWS, check_border, check_counts, check_counts_of
from rootsabove.counts import ABOVE, AT, BELOW, side_of, signs_of, with_more
from rootsabove.forms import along_table, sum_of_tables
from rootsabove.laced import corner_rows
from rootsabove.quotients import NOUGHT, fraction, shared_under, times, whole_rows
from rootsabove.ranks import sign_of, size_of
from rootsabove.tables import check_table, root_counts, squares_of
from rootsabove.wholes import dot, first_place, leads_of, noughts_under, places_left, solved


def check_filling(table, border):
    check_table(table)
    check_border(border, len(table))


def tied_leads(table, border):
    """Leads of the products of the border's rows with each free row that the table takes to noughts."""
    rows = whole_rows(border, shared_under(border))
    noughts = noughts_under(whole_rows(table, shared_under(table)), len(table))
    return leads_of([[dot(row, nought) for row in rows] for nought in noughts])


def fill_triples(table, border):
    """All triples of counts that the whole table has for some corner, ascending."""
    check_filling(table, border)
    above, at_nought, below = root_counts(table, NOUGHT)
    tied = len(tied_leads(table, border))
    left = len(border) - tied
    return tuple([(above + tied + i, at_nought - tied + j, below + tied + left - i - j)
                  for i in range(left + 1) for j in range(left + 1 - i)])


def filled(table, border, counts):
    """A corner that gives the whole table the counts; None if there is none."""
    check_filling(table, border)
    check_counts_of(counts, len(table) + len(border))
    above, at_nought, below = root_counts(table, NOUGHT)
    leads = tied_leads(table, border)
    tied = len(leads)
    left = (counts[ABOVE] - above - tied, counts[AT] - at_nought + tied, counts[BELOW] - below - tied)
    if min(left) < 0:
        return None
    # The rows that are not tied have 0 in each of these places but one of their own: its number tells their sign.
    numbers = [NOUGHT] * len(border)
    for place, sign in zip(places_left(leads, len(border)), signs_of(left)):
        numbers[place] = (sign, 1)
    return sum_of_tables(taken_out(table, border), along_table(numbers))


def taken_out(table, border):
    """The corner of which nothing is left when the table's squares other than 0 are taken out.

    It is N B^-1 N', B being the corner of the table at places of free rows, as many
    as its rank, and N the border at these places.
    """
    under, border_under = shared_under(table), shared_under(border)
    whole = whole_rows(table, under)
    places = sorted([first_place(lead) for lead in leads_of(whole)])
    rows = [[row[place] for place in places] for row in whole_rows(border, border_under)]
    factor = fraction(under, border_under * border_under)
    led = [solved(corner_rows(whole, places), row) for row in rows]
    return tuple(tuple([times(factor, fraction(dot(one, row), share)) for row, share in led]) for one in rows)


def is_bordered(one, other, whole):
    """Whether some border makes a table of the counts `one` and a corner of `other` a whole one of `whole`."""
    check_counts(one, MOST_ROWS - 1)
    check_counts(other, MOST_ROWS - 1)
    check_counts_of(whole, sum(one) + sum(other))
    return are_bordered(one, other, whole)


def check_bordering(one, other, whole):
    """Checks triples as for is_bordered, for a whole table of at most five rows."""
    check_counts(one, MOST_ROWS - 1)
    check_counts(other, MOST_ROWS - sum(one))
    check_counts_of(whole, sum(one) + sum(other))


def are_bordered(one, other, whole):
    above, _, below = one
    above_other, _, below_other = other
    above_all, _, below_all = whole
    return (max(above, above_other) <= above_all <= min(above + sum(other), above_other + sum(one))
            and max(below, below_other) <= below_all <= min(below + sum(other), below_other + sum(one))
            and above_all - below_all <= above + above_other and below_all - above_all <= below + below_other)


def bordered(table, corner, whole):
    """A border, and a corner of the counts `corner`, that give the whole table `whole`; None if there are none."""
    check_table(table)
    check_counts(corner, MOST_ROWS - len(table))
    check_counts_of(whole, len(table) + sum(corner))
    squares = squares_of(table, NOUGHT)
    signs = [sign_of(share) for share, _ in squares]
    ties = ties_to(signs, list(range(len(table))), signs_of(corner), whole)
    if ties is None:
        return None
    border = [border_row(squares, place, tie) for place, tie, _ in ties]
    along = [(sign, 1) if place is None else times((sign, 1), size_of(squares[place][0])) for place, _, sign in ties]
    return (tuple(border), along_table(along))


def border_row(squares, place, tie):
    """The row of the square at the place, times what ties it, its size as it is; noughts for no place."""
    if place is None:
        return (NOUGHT,) * len(squares)
    share, row = squares[place]
    return tuple(times((tie, 1), times(size_of(share), number)) for number in row)


def ties_to(signs, places, corner_signs, whole):
    """For each sign of the corner (PLACE, TIE, SIGN): the place of a sign of the table, and what ties both.

    The places are those not tied yet, PLACE is None for no tie; all pairs and what
    is not tied together have the counts `whole`. None if there are no such ties.
    """
    if len(corner_signs) == 0:
        left = whole
        for place in places:
            left = with_more(left, side_of(signs[place]), -1)
        return [] if left == (0, 0, 0) else None
    sign = corner_signs[0]
    for place, tie, sides in ties_of(signs, places, sign):
        left = whole
        for side in sides:
            left = with_more(left, side, -1)
        if min(left) >= 0:
            others = [one for one in places if one != place]
            found = ties_to(signs, others, corner_signs[1:], left)
            if found is not None:
                return [(place, tie, sign)] + found
    return None


def ties_of(signs, places, sign):
    """All ways to tie the sign: (PLACE, TIE, SIDES), the sides being those of the roots of what is tied."""
    found = [(None, 0, (side_of(sign),))]
    for place in places:
        for tie in (1, 2):
            # The signs along and the tie beside have a determinant below 0, or it is 0 and one root is.
            if signs[place] * sign == tie * tie:
                found.append((place, tie, (side_of(sign), AT)))
            else:
                found.append((place, tie, (ABOVE, BELOW)))
    return found
