"""Statements made short: no tuple is alike with truth, with nought or with a side of its own, but for truth itself.

But for `short` itself, all statements here are told by their numbers in the stock of a search.
"""

from lesssay.search import Search
from lesssay.statements import NOUGHT, TRUTH, folded


def short_and(search, one, other):
    """A short statement alike with the and of two short ones."""
    if search.given([one], other):
        return one
    if search.given([other], one):
        return other
    nought = search.stock.leaf(NOUGHT)
    if search.given([one, other], nought):
        return nought
    return search.stock.made("and", one, other)


def short_or(search, one, other):
    """A short statement alike with the or of two short ones."""
    # An or is given by no statements only where one of its sides is, and that one is then truth itself.
    if search.given([one], other):
        return other
    if search.given([other], one):
        return one
    return search.stock.made("or", one, other)


def short_gives(search, one, other):
    """A short statement alike with the gives of two short ones."""
    if search.given([one], other):
        return search.stock.number(TRUTH)
    made = search.stock.made("gives", one, other)
    # Where it is alike with nought the other one is nought itself.
    if search.given([made], other):
        return other
    return made


MAKERS = {
    "and": short_and,
    "or": short_or,
    "gives": short_gives,
}


def short_made(search, sign, one, other):
    """A short statement alike with what the sign makes of two short ones."""
    maker = MAKERS[sign]
    return maker(search, one, other)


def short_number(search, statement):
    """The number of a short statement alike with the one told."""
    return folded(
        statement,
        lambda word: search.stock.leaf(word),
        lambda sign, one, other: short_made(search, sign, one, other),
    )


def short(statement):
    """A short statement that is alike with this one and has no other letters."""
    search = Search()
    return search.stock.statements[short_number(search, statement)]
