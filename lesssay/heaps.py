"""Heaps: lists of statements, ordered by the weights of these."""

from lesssay.statements import words


def weight(statement):
    """The weight of a statement."""
    # Each letter, nought and sign adds 1, and only an "and" adds 1 more.
    found = words(statement)
    return len(found) + found.count("and")


def struck(heap, other):
    """The weights of a heap that are left when those it has in common with the other are struck out."""
    kept = [weight(statement) for statement in heap]
    for statement in other:
        common = weight(statement)
        if common in kept:
            kept.remove(common)
    return kept


def lesser(one, other):
    """Whether the one heap is lesser than the other."""
    above = struck(other, one)
    if not above:
        return False
    greatest = max(above)
    return all([below < greatest for below in struck(one, other)])
