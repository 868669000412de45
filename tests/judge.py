"""A second checker, apart from the package: what a paper must be for a claim that is told rightly, in Fractions."""

from fractions import Fraction
from itertools import combinations

import byhand
from byhand import counts_by_squares, is_row_of, is_told, read, row_read, table_read


def are_rows(value, many, size):
    return type(value) is tuple and len(value) == many and all(is_row_of(row, size) for row in value)


def is_form(value, size):
    return are_rows(value, size, size) and all(value[i][j] == value[j][i] for i in range(size) for j in range(i))


def is_tuple(value, size):
    return type(value) is tuple and len(value) == size


def are_free(rows):
    return byhand.rank(rows) == len(rows)


def is_falling(value, size):
    return size > 0 and is_row_of(value, size) and sorted(row_read(value), reverse=True) == row_read(value)


def tried(paper, many, form):
    """The counts of the form for the rows of the paper, if they are free rows, so many; None if not."""
    if not are_rows(paper, many, len(form)) or not are_free(table_read(paper)):
        return None
    return counts_by_squares(byhand.seen_by(table_read(paper), form), 0)


def counts(table, number, told_so, paper):
    size = len(table)
    if not is_tuple(paper, size) or not all(
            is_tuple(square, 2) and is_told(square[0]) and is_row_of(square[1], size) for square in paper):
        return False
    shares, rows = [read(share) for share, _ in paper], [row_read(row) for _, row in paper]
    added = [[sum((share * row[i] * row[j] for share, row in zip(shares, rows)), Fraction(0)) for j in range(size)]
             for i in range(size)]
    signs = (sum(share > 0 for share in shares), shares.count(0), sum(share < 0 for share in shares))
    return are_free(rows) and added == byhand.less(table_read(table), read(number)) and signs == told_so


def roots_from(table, number, least, paper):
    found = tried(paper, least, byhand.less(table_read(table), read(number)))
    return found is not None and found[2] == 0


def fewer_from(table, number, least, paper):
    many = len(table) - least + 1
    return tried(paper, many, byhand.less(table_read(table), read(number))) == (0, 0, many)


def stretch(table, low, high):
    table = table_read(table)
    return byhand.multiplied(byhand.less(table, read(low)), byhand.less(table, read(high)))


def within(table, low, high, least, paper):
    found = tried(paper, least, stretch(table, low, high))
    return found is not None and found[0] == 0


def fewer_within(table, low, high, least, paper):
    many = len(table) - least + 1
    return tried(paper, many, stretch(table, low, high)) == (many, 0, 0)


def trial(told_so, trial_so, paper):
    if not is_tuple(paper, 2) or not is_form(paper[0], sum(told_so)):
        return False
    form = table_read(paper[0])
    return counts_by_squares(form, 0) == told_so and tried(paper[1], sum(trial_so), form) == trial_so


def perhaps_outside(mean, spread, low, high, paper):
    if not is_row_of(paper, 3):
        return False
    lower, upper, share = row_read(paper)
    low, high = read(low), read(high)
    if not lower <= upper or low <= lower <= high or low <= upper <= high or not 0 <= share <= 1:
        return False
    middle = share * lower + (1 - share) * upper
    return (middle == read(mean)
            and share * (lower - middle) ** 2 + (1 - share) * (upper - middle) ** 2 == read(spread))


def are_laced(roots, others):
    fewer = len(roots) - len(others)
    return all(0 <= sum(one >= number for one in roots) - sum(one >= number for one in others) <= fewer
               for number in set(roots) | set(others))


def laced(roots, others, paper):
    many = len(roots) - len(others) - 1
    if not is_tuple(paper, many) or not all(
            is_falling(row, len(roots) - 1 - place) for place, row in enumerate(paper)):
        return False
    chain = [row_read(row) for row in (roots,) + paper + (others,)]
    return all(are_laced(one, other) for one, other in zip(chain, chain[1:]))


def are_squares(value, size):
    return is_row_of(value, size) and all(share >= 0 for share in row_read(value))


def arrow(roots, others, paper):
    if not is_tuple(paper, 2) or not are_squares(paper[0], len(others)) or not is_told(paper[1]):
        return False
    found = byhand.tied_polynomial(row_read(others), row_read(paper[0]), read(paper[1]))
    return found == byhand.from_roots(row_read(roots))


def raised(roots, others, paper):
    if not are_squares(paper, len(others)):
        return False
    return byhand.changed_polynomial(row_read(others), row_read(paper), 1) == byhand.from_roots(row_read(roots))


def is_turn(value, size):
    return (is_tuple(value, 3) and all(type(place) is int and 0 <= place < size for place in value[:2])
            and value[0] != value[1] and is_told(value[2]) and 0 <= read(value[2]) <= 1)


def spread(roots, diagonal, paper):
    if type(paper) is not tuple or not all(is_turn(turn, len(roots)) for turn in paper):
        return False
    row = row_read(roots)
    for i, j, share in paper:
        share, one, other = read(share), row[i], row[j]
        row[i], row[j] = share * one + (1 - share) * other, share * other + (1 - share) * one
    return row == row_read(diagonal)


def not_spread(roots, diagonal, paper):
    if type(paper) is not int or not 1 <= paper <= len(roots):
        return False
    most = max(sum(lot) for lot in combinations(row_read(diagonal), paper))
    let = sum(row_read(roots)[:paper])
    return most > let or paper == len(roots) and most != let


def stays(table, row, number, paper):
    if not is_row_of(paper, len(table)) or not any(row_read(paper)):
        return False
    found = byhand.led(byhand.less(table_read(table), read(number)), row_read(paper))
    return not any(found) and byhand.dot(row_read(row), row_read(paper)) == 0


def change(before, change_so, after, paper):
    size = sum(before)
    if not is_tuple(paper, 2) or not is_form(paper[0], size) or not is_form(paper[1], size):
        return False
    forms = [table_read(form) for form in paper]
    triples = [counts_by_squares(form, 0) for form in forms + [byhand.added(*forms)]]
    return triples == [before, change_so, after]


def near(table, number, size, above, paper):
    if not is_form(paper, len(table)):
        return False
    off, by = table_read(paper), read(size)
    is_small = counts_by_squares(off, by)[0] == 0 and counts_by_squares(off, -by)[2] == 0
    return is_small and counts_by_squares(byhand.added(table_read(table), off), read(number))[0] == above


def broken(table, bounds, number, paper):
    size = len(table)
    if not is_tuple(paper, 2) or not is_form(paper[0], size) or not is_row_of(paper[1], size):
        return False
    form, row = table_read(paper[0]), row_read(paper[1])
    for one, other, most in zip(form, table_read(table), table_read(bounds)):
        if any(abs(a - b) > bound for a, b, bound in zip(one, other, most)):
            return False
    return byhand.dot(row, byhand.led(form, row)) < read(number) * byhand.dot(row, row)


def whole_counts(table, border, corner):
    table, border, corner = table_read(table), table_read(border), table_read(corner)
    columns = [list(column) for column in zip(*border)]
    upper = [row + beside for row, beside in zip(table, columns)]
    return counts_by_squares(upper + [row + beside for row, beside in zip(border, corner)], 0)


def fills(table, border, told_so, paper):
    return is_form(paper, len(border)) and whole_counts(table, border, paper) == told_so


def bordered(one, other, whole, paper):
    size, many = sum(one), sum(other)
    if not is_tuple(paper, 3) or not is_form(paper[0], size) or not is_form(paper[2], many):
        return False
    if not are_rows(paper[1], many, size):
        return False
    triples = [counts_by_squares(table_read(form), 0) for form in (paper[0], paper[2])]
    return triples == [one, other] and whole_counts(*paper) == whole


# For each first word whose claims have a paper.
JUDGES = {
    "counts": counts, "roots from": roots_from, "fewer from": fewer_from, "within": within,
    "fewer within": fewer_within, "trial": trial, "perhaps outside": perhaps_outside, "laced": laced, "arrow": arrow,
    "raised": raised, "spread": spread, "not spread": not_spread, "stays": stays, "change": change, "near": near,
    "broken": broken, "fills": fills, "bordered": bordered,
}
# Each first word with that of the claim that excludes it.
OPPOSITES = {
    "roots from": "fewer from", "within": "fewer within", "trial": "no trial", "surely within": "perhaps outside",
    "laced": "not laced", "arrow": "no arrow", "raised": "not raised", "spread": "not spread",
    "sum up to": "sum above", "stays": "leaves", "change": "no change", "near": "not near", "kept": "broken",
    "fills": "fills not", "bordered": "not bordered",
}
OPPOSITES.update({other: word for word, other in list(OPPOSITES.items())})


def is_so(word, parts, paper):
    """Whether the paper is one for the claim; for a claim that wants none, whether it is nothing, so told."""
    if word in JUDGES:
        return JUDGES[word](*parts, paper)
    return None


def bent(value):
    """The value with one element bent, left out, twice, or of another kind."""
    if type(value) is int:
        yield from (value + 1, value - 1, -value, bool(value), str(value), None, (value,))
        return
    yield list(value)
    if is_told(value):
        number = read(value)
        for other in (number + 1, number - Fraction(1, 10 ** 30), -number, 2 * number, number / 3):
            yield byhand.told(other)
        yield from ((2 * value[0], 2 * value[1]), (-value[0], -value[1]), value[0], (value[0],), value + (1,))
        return
    if value:
        yield from (value[1:], value[:-1], value + value[-1:], value[::-1], (value[0],) * len(value))
    for place, part in enumerate(value):
        for other in bent(part):
            yield value[:place] + (other,) + value[place + 1:]
