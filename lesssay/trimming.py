"""Statements trimmed: as long as a part of one can be replaced by a part of that part, all staying alike, it is.

All statements here are told by their numbers in the stock of a search.
"""

from lesssay.statements import tuples


def parts(stock, number):
    """The statements of which a statement is made, itself too."""
    found = []
    waiting = [number]
    while waiting:
        part = waiting.pop()
        found.append(part)
        waiting.extend(stock.sides[part])
    return found


def variants(stock, number):
    """The statements that have, in place of a tuple of this one, a part of that tuple."""
    if not stock.sides[number]:
        return []
    sign = stock.kinds[number]
    one, other = stock.sides[number]
    found = parts(stock, one) + parts(stock, other)
    found += [stock.made(sign, each, other) for each in variants(stock, one)]
    found += [stock.made(sign, one, each) for each in variants(stock, other)]
    return found


def from_small_to_large(stock, numbers):
    """These statements, each once, those with the fewest tuples first."""
    return sorted(sorted(set(numbers)), key=lambda number: tuples(stock.statements[number]))


def smaller(search, number):
    """One of the smallest variants that are alike with the statement, or None where there is none."""
    for variant in from_small_to_large(search.stock, variants(search.stock, number)):
        if search.given([number], variant) and search.given([variant], number):
            return variant
    return None


def trimmed(search, number):
    """A statement alike with this short one, none of whose variants is alike with it."""
    # It is short, too: a tuple alike with a side, or with nought, has that as a part; and one alike with truth makes
    # the tuple around it alike with a side, or with truth in turn, up to the whole.
    found = smaller(search, number)
    while found is not None:
        number = found
        found = smaller(search, number)
    return number
