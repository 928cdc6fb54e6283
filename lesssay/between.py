"""Between two statements: one that the first gives, that gives the second, and that has only letters of both."""

from lesssay.settling import reason_for, settled
from lesssay.statements import letters
from lesssay.taking import demand_few, left


def between(one, other):
    """("between", middle, reason, reason), or ("tree", tree) where the first does not give the second."""
    demand_few(one)
    demand_few(other)
    kind, paper = settled([one], other)
    if kind == "tree":
        return kind, paper
    shared = letters(other)
    # What is left is the strongest without these letters, so it gives the other, which has none of them.
    middle = left(one, [letter for letter in letters(one) if letter not in shared])
    return "between", middle, reason_for(one, middle), reason_for(middle, other)
