"""Reasons: tuples (rule, about, parts), the parts a list of reasons; when they stand, and how large they are."""

from lesssay.rules import fits, rows_needed
from lesssay.statements import is_statement
from lesssay.stock import Stock


def has_form(thing):
    """Whether any thing is a tuple of a text, a statement and a list, whatever stands in the list."""
    if not isinstance(thing, tuple) or len(thing) != 3:
        return False
    rule, about, parts = thing
    return isinstance(rule, str) and isinstance(parts, list) and is_statement(about)


def stands(heap, goal, reason):
    """Whether any thing is a reason that stands for the row."""
    stock = Stock()
    # A list of what waits, not recursion: a reason may be higher than Python's calls reach.
    waiting = [([stock.number(statement) for statement in heap], stock.number(goal), reason)]
    while waiting:
        have, wanted, thing = waiting.pop()
        if not has_form(thing):
            return False
        rule, about, parts = thing
        number = stock.number(about)
        if not fits(stock, have, wanted, rule, number):
            return False
        rows = rows_needed(stock, have, wanted, rule, number)
        if len(rows) != len(parts):
            return False
        waiting.extend([(more, need, part) for (more, need), part in zip(rows, parts)])
    return True


def steps(reason):
    """The rules of a reason as tuples (rule, about, how many parts), each ahead of its parts."""
    found = []
    waiting = [reason]
    while waiting:
        rule, about, parts = waiting.pop()
        found.append((rule, about, len(parts)))
        waiting.extend(parts[::-1])
    return found


def built(found):
    """The reason that has these steps, all its lists new."""
    ready = []
    # From behind, so that all parts of a rule are built when it comes.
    for rule, about, many in reversed(found):
        parts = [ready.pop() for part in range(many)]
        ready.append((rule, about, parts))
    return ready.pop()


def size(reason):
    """How many rules a reason has."""
    return len(steps(reason))


def height(reason):
    """How many rules of a reason are within one another at most."""
    ready = []
    for rule, about, many in reversed(steps(reason)):
        heights = [ready.pop() for part in range(many)]
        ready.append(1 + max(heights, default=0))
    return ready.pop()
