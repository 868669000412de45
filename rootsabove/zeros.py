"""Polynomials with whole numbers, the lowest power first, the last number 1, all zeros real."""

from rootsabove.wholes import first_place, multiplied, rest_beside, unit_row


def polynomial_of(table):
    """The polynomial of a table of whole numbers (Faddeev, LeVerrier)."""
    size = len(table)
    numbers = [1]
    power = [unit_row(size, (place,)) for place in range(size)]
    for step in range(1, size + 1):
        power = multiplied(table, power)
        number = -sum(power[place][place] for place in range(size)) // step
        numbers.append(number)
        for place in range(size):
            power[place][place] += number
    return numbers[::-1]


def stretched(numbers, many):
    """The polynomial with each zero times many."""
    found = []
    factor = 1
    for number in reversed(numbers):
        found.append(number * factor)
        factor = factor * many
    return found[::-1]


def moved(numbers, step):
    """The polynomial with each zero less step: that with x + step in the place of x."""
    found = list(numbers)
    last = len(found) - 1
    for first in range(last):
        for place in range(last - 1, first - 1, -1):
            found[place] += step * found[place + 1]
    return found


def with_zeros(zeros):
    """The polynomial with these zeros."""
    found = [1]
    for zero in zeros:
        found = [back - zero * number for back, number in zip([0] + found, found + [0])]
    return found


def counts_of(numbers):
    """How many zeros are above, at and below 0 (Descartes)."""
    signs = [number > 0 for number in numbers if number]
    above = sum(1 for one, other in zip(signs, signs[1:]) if one != other)
    at_nought = first_place(numbers)
    return (above, at_nought, len(numbers) - 1 - above - at_nought)


def many_from(numbers, start):
    """How many zeros are from start on."""
    above, at_start, _ = counts_of(moved(numbers, start))
    return above + at_start


def steps_under(numbers, index, step, guess):
    """The greatest whole k for which k * step is not above zero index; step is above 0.

    The search begins at the guess: the nearer, the fewer steps.
    """
    gap = 1
    while many_from(numbers, (guess - gap) * step) <= index:
        gap = gap * 2
    low = guess - gap
    gap = 1
    while many_from(numbers, (guess + gap) * step) > index:
        gap = gap * 2
    high = guess + gap
    while high - low > 1:
        middle = (low + high) // 2
        if many_from(numbers, middle * step) > index:
            low = middle
        else:
            high = middle
    return low


def unlike_roots(table):
    """How many unlike roots a table of whole numbers has: so many of its powers, from power 0 on, are free."""
    size = len(table)
    leads = []
    power = [unit_row(size, (place,)) for place in range(size)]
    rest = rest_beside(in_one_row(power), leads)
    while any(rest):
        leads.append(rest)
        power = multiplied(table, power)
        rest = rest_beside(in_one_row(power), leads)
    return len(leads)


def in_one_row(table):
    """The numbers of a table that is alike turned over, those along and those before them."""
    return [number for place, row in enumerate(table) for number in row[:place + 1]]


def bound_of(numbers):
    """A power of 2 such that all zeros are from 1 less it on, and below it."""
    bound = 1
    while many_from(numbers, bound) > 0 or many_from(numbers, 1 - bound) < len(numbers) - 1:
        bound = bound * 2
    return bound


def lots_of(numbers, unlike):
    """How often each zero comes, from the greatest down; unlike is how many unlike zeros there are.

    Pieces of the line, each from low on and below low + width, are halved until
    as many have zeros as there are unlike zeros: then each has just one of them.
    """
    bound = bound_of(numbers)
    width = 2 * bound
    pieces = [(-bound, len(numbers) - 1)]
    while len(pieces) < unlike:
        if width == 1:
            numbers = stretched(numbers, 2)
            pieces = [(2 * low, many) for low, many in pieces]
            width = 2
        width = width // 2
        pieces = halved(numbers, pieces, width)
    return [many for _, many in pieces]


def halved(numbers, pieces, width):
    """The halves, of the width, that have zeros, from the greatest down; a piece with one zero stays as it is."""
    found = []
    ahead = 0
    for low, many in pieces:
        if many == 1:
            found.append((low, many))
        else:
            upper = many_from(numbers, low + width) - ahead
            if upper > 0:
                found.append((low + width, upper))
            if upper < many:
                found.append((low, many - upper))
        ahead = ahead + many
    return found
