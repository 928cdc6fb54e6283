"""The thirteen rules: what a row (heap, goal) needs by each of them.

But for `needs` itself, all statements here are told by their numbers in a stock.
"""

from lesssay.errors import NoRule
from lesssay.statements import is_statement
from lesssay.stock import Stock

# The sign that the goal has, by the name of the rule.
GOAL_RULES = {
    "both": "and",
    "first": "or",
    "second": "or",
    "assume": "gives",
}

# The one rule that may be about a statement of the heap, by its kind, or, of a gives, by the kind of its first side.
HEAP_RULES = {
    "letter": "here",
    "nought": "void",
    "and": "open",
    "or": "cases",
}
GIVES_RULES = {
    "letter": "use",
    "nought": "idle",
    "and": "curry",
    "or": "split",
    "gives": "try",
}


def by_both(stock, about, goal):
    one, other = stock.sides[about]
    return [([], one), ([], other)]


def by_first(stock, about, goal):
    return [([], stock.sides[about][0])]


def by_second(stock, about, goal):
    return [([], stock.sides[about][1])]


def by_assume(stock, about, goal):
    one, other = stock.sides[about]
    return [([one], other)]


def by_nothing(stock, about, goal):
    return []


def by_open(stock, about, goal):
    one, other = stock.sides[about]
    return [([one, other], goal)]


def by_cases(stock, about, goal):
    one, other = stock.sides[about]
    return [([one], goal), ([other], goal)]


def by_use(stock, about, goal):
    return [([stock.sides[about][1]], goal)]


def by_idle(stock, about, goal):
    return [([], goal)]


def by_curry(stock, about, goal):
    condition, gain = stock.sides[about]
    one, other = stock.sides[condition]
    return [([stock.made("gives", one, stock.made("gives", other, gain))], goal)]


def by_split(stock, about, goal):
    condition, gain = stock.sides[about]
    one, other = stock.sides[condition]
    return [([stock.made("gives", one, gain), stock.made("gives", other, gain)], goal)]


def by_try(stock, about, goal):
    condition, gain = stock.sides[about]
    other = stock.sides[condition][1]
    return [([stock.made("gives", other, gain)], condition), ([gain], goal)]


CHANGES = {
    "both": by_both,
    "first": by_first,
    "second": by_second,
    "assume": by_assume,
    "here": by_nothing,
    "void": by_nothing,
    "open": by_open,
    "cases": by_cases,
    "use": by_use,
    "idle": by_idle,
    "curry": by_curry,
    "split": by_split,
    "try": by_try,
}


def changes(stock, goal, rule, about):
    """Of each need of a rule that fits: what comes more to the heap, and the need's goal."""
    change = CHANGES[rule]
    return change(stock, about, goal)


def heap_rule(stock, about):
    """The one rule that may be about this statement of a heap."""
    kind = stock.kinds[about]
    if kind == "gives":
        return GIVES_RULES[stock.kinds[stock.sides[about][0]]]
    return HEAP_RULES[kind]


def asked(stock, rule, about):
    """The statements that the rule asks for in the heap; the last one is taken out of it."""
    if rule in GOAL_RULES:
        return []
    if rule == "use":
        return [stock.sides[about][0], about]
    return [about]


def fits(stock, heap, goal, rule, about):
    """Whether the rule, any text, about the statement fits the row."""
    if rule in GOAL_RULES:
        return about == goal and stock.kinds[goal] == GOAL_RULES[rule]
    if rule != heap_rule(stock, about) or (rule == "here" and about != goal):
        return False
    return all([number in heap for number in asked(stock, rule, about)])


def rows_needed(stock, heap, goal, rule, about):
    """The rows that the row needs by a rule that fits."""
    rest = list(heap)
    if rule not in GOAL_RULES:
        rest.remove(about)
    return [(rest + more, wanted) for more, wanted in changes(stock, goal, rule, about)]


def needs(heap, goal, rule, about):
    """The rows (heap, goal) that this row needs by the rule about the statement."""
    # Any thing may come as rule and about: a list cannot be looked up, and other tuples have no sides.
    if not isinstance(rule, str) or not is_statement(about):
        raise NoRule("this is no rule about a statement")
    stock = Stock()
    have = [stock.number(statement) for statement in heap]
    wanted, number = stock.number(goal), stock.number(about)
    if not fits(stock, have, wanted, rule, number):
        raise NoRule("the rule does not fit the row")
    told = stock.statements
    return [
        ([told[each] for each in more], told[need])
        for more, need in rows_needed(stock, have, wanted, rule, number)
    ]
