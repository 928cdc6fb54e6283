"""Rows settled: with a reason that stands, or with a tree that refutes."""

from lesssay.reasons import built
from lesssay.search import Search


def reason_of(search, lemma):
    """The reason of a lemma, all its lists new."""
    found = []
    waiting = [lemma]
    while waiting:
        part = waiting.pop()
        found.append((part.rule, search.stock.statements[part.about], len(part.parts)))
        waiting.extend(part.parts[::-1])
    return built(found)


def settled(heap, goal):
    """("reason", reason) with a reason that stands for the row, or ("tree", tree) with a tree that refutes it."""
    search = Search()
    have, wanted = search.row(heap, goal)
    lemma = search.settle((have, wanted))
    if lemma is None:
        return "tree", search.forest.tree(search.forest.refuter(have, wanted))
    return "reason", reason_of(search, lemma)


def reason_for(one, other):
    """A reason that the one statement gives the other one, where it does."""
    return settled([one], other)[1]


def gives(one, other):
    """Whether the one statement gives the other one."""
    search = Search()
    return search.given([search.stock.number(one)], search.stock.number(other))


def alike(one, other):
    """Whether each of two statements gives the other one."""
    return gives(one, other) and gives(other, one)
