"""The thirteen rules: what a row (heap, goal) needs by each of them."""

from lesssay.errors import NoRule
from lesssay.statements import NOUGHT, is_letter, is_statement, same


def demand(fits):
    """Refuse the rule where it does not fit."""
    if not fits:
        raise NoRule("the rule does not fit the row")


def sides(statement, sign):
    """Both sides of a statement that must have this sign."""
    demand(isinstance(statement, tuple) and statement[0] == sign)
    return statement[1], statement[2]


def without(heap, about):
    """The heap without the statement, taken out once, at its first place."""
    for at, statement in enumerate(heap):
        if same(statement, about):
            return heap[:at] + heap[at + 1:]
    raise NoRule("the rule is about a statement that does not stand in the heap")


def by_both(heap, goal):
    one, other = sides(goal, "and")
    # Two copies: no list may stand at two places of what is told.
    return [(list(heap), one), (list(heap), other)]


def by_first(heap, goal):
    return [(list(heap), sides(goal, "or")[0])]


def by_second(heap, goal):
    return [(list(heap), sides(goal, "or")[1])]


def by_assume(heap, goal):
    one, other = sides(goal, "gives")
    return [(heap + [one], other)]


def by_here(rest, goal, about):
    demand(is_letter(about) and about == goal)
    return []


def by_void(rest, goal, about):
    demand(about == NOUGHT)
    return []


def by_open(rest, goal, about):
    one, other = sides(about, "and")
    return [(rest + [one, other], goal)]


def by_cases(rest, goal, about):
    one, other = sides(about, "or")
    return [(rest + [one], goal), (rest + [other], goal)]


def by_use(rest, goal, about):
    letter, gain = sides(about, "gives")
    demand(is_letter(letter) and letter in rest)
    return [(rest + [gain], goal)]


def by_idle(rest, goal, about):
    demand(sides(about, "gives")[0] == NOUGHT)
    return [(rest, goal)]


def by_curry(rest, goal, about):
    condition, gain = sides(about, "gives")
    one, other = sides(condition, "and")
    return [(rest + [("gives", one, ("gives", other, gain))], goal)]


def by_split(rest, goal, about):
    condition, gain = sides(about, "gives")
    one, other = sides(condition, "or")
    return [(rest + [("gives", one, gain), ("gives", other, gain)], goal)]


def by_try(rest, goal, about):
    condition, gain = sides(about, "gives")
    one, other = sides(condition, "gives")
    return [(rest + [("gives", other, gain)], ("gives", one, other)), (rest + [gain], goal)]


GOAL_RULES = {
    "both": by_both,
    "first": by_first,
    "second": by_second,
    "assume": by_assume,
}

HEAP_RULES = {
    "here": by_here,
    "void": by_void,
    "open": by_open,
    "cases": by_cases,
    "use": by_use,
    "idle": by_idle,
    "curry": by_curry,
    "split": by_split,
    "try": by_try,
}


def needs(heap, goal, rule, about):
    """The rows (heap, goal) that this row needs by the rule about the statement."""
    # Any thing may come as rule and about: a list cannot be looked up, and other tuples have no sides.
    demand(isinstance(rule, str) and is_statement(about))
    if rule in GOAL_RULES:
        demand(same(about, goal))
        goal_rule = GOAL_RULES[rule]
        return goal_rule(heap, goal)
    demand(rule in HEAP_RULES)
    heap_rule = HEAP_RULES[rule]
    return heap_rule(without(heap, about), goal, about)
