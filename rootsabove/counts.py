"""Counts: triples of how many are above, at and below a number."""

ABOVE = 0
AT = 1
BELOW = 2


def side_of(number):
    """Whether the whole number is above, at or below 0: its index in the counts at 0."""
    if number > 0:
        return ABOVE
    if number < 0:
        return BELOW
    return AT


def with_more(counts, side, step):
    """The counts with so many more at the side."""
    return tuple(count + step if place == side else count for place, count in enumerate(counts))


def signs_of(counts):
    """1, 0 and -1, each as often as the counts tell."""
    above, at_nought, below = counts
    return [1] * above + [0] * at_nought + [-1] * below
