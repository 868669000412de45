"""The checker: whether a paper is one for a claim, whoever wrote them."""

from rootsabove.checks import is_tuple_of
from rootsabove.claims import CLAIMS
from rootsabove.errors import RootError
from rootsabove.papers import PAPERS

# How many parts a claim has behind its first word.
PARTS = {
    "counts": 3, "roots from": 3, "fewer from": 3, "within": 4, "fewer within": 4, "trial": 2, "no trial": 2,
    "surely within": 4, "perhaps outside": 4, "laced": 2, "not laced": 2, "arrow": 2, "no arrow": 2, "raised": 2,
    "not raised": 2, "spread": 2, "not spread": 2, "sum up to": 3, "sum above": 3, "stays": 3, "leaves": 3, "change": 3,
    "no change": 3, "near": 4, "not near": 4, "kept": 3, "broken": 3, "fills": 3, "fills not": 3, "bordered": 3,
    "not bordered": 3,
}


def accepts(claim, paper):
    """Whether the claim is one for the checker and the paper one for it, whatever both are."""
    if not is_told_claim(claim):
        return False
    word, parts = claim[0], claim[1:]
    try:
        if word in CLAIMS:
            return is_tuple_of(paper, 0) and is_so(word, parts)
        return is_shown(word, parts, paper)
    except RootError:
        # A part, or the paper, is not as told.
        return False


def is_told_claim(value):
    """Whether the value has a claim's first word and as many parts as its claims have."""
    if type(value) is not tuple or len(value) == 0 or type(value[0]) is not str:
        return False
    return value[0] in PARTS and len(value) == 1 + PARTS[value[0]]


def is_so(word, parts):
    rule = CLAIMS[word]
    return rule(*parts)


def is_shown(word, parts, paper):
    rule = PAPERS[word]
    return rule(*parts, paper)
