"""Reasons put together: joined at a middle, made once, and brought to a side."""

from lesssay.errors import NoReason
from lesssay.reasons import built, stands, steps
from lesssay.settling import settled


def demand(heap, goal, reason):
    """Refuse any thing that is no reason that stands for the row."""
    if not stands(heap, goal, reason):
        raise NoReason("this is no reason that stands for the row")


def joined(heap, middle, goal, one, other):
    """A reason for (heap, goal), of one for (heap, middle) and one for (heap and middle, goal)."""
    demand(heap, middle, one)
    demand(heap + [middle], goal, other)
    # Where both stand no tree refutes the row, so it is settled with a reason.
    return settled(heap, goal)[1]


def once(heap, twice, goal, reason):
    """A reason for (heap and the statement, goal), of one for (heap and the statement twice, goal)."""
    demand(heap + [twice, twice], goal, reason)
    return settled(heap + [twice], goal)[1]


def side(one, other, reason):
    """("first", reason for one) or ("second", reason for other), of a reason that no statements give one or other."""
    demand([], ("or", one, other), reason)
    # With no statements only the two rules of an or fit, each with one part.
    rule, about, parts = reason
    return rule, built(steps(parts[0]))
