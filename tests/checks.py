"""The document's words on rows, reasons and trees said once more, plainly, mostly without the program; and more."""

import random

from lesssay.settling import alike
from tests.samples import NOUGHT, SIGNS, TRUTH

GOAL_RULES = ["both", "first", "second", "assume"]
HEAP_RULES = ["here", "void", "open", "cases", "use", "idle", "curry", "split", "try"]
RULES = GOAL_RULES + HEAP_RULES


def rows_by_goal(heap, goal, rule):
    match rule, goal:
        case "both", ("and", one, other):
            return [(heap, one), (heap, other)]
        case "first", ("or", one, other):
            return [(heap, one)]
        case "second", ("or", one, other):
            return [(heap, other)]
        case "assume", ("gives", one, other):
            return [(heap + [one], other)]
    return None


def rows_by_heap(heap, goal, rule, about):
    at = heap.index(about)
    rest = heap[:at] + heap[at + 1:]
    match rule, about:
        case "here", str():
            return [] if about == goal and about != NOUGHT else None
        case "void", "nought":
            return []
        case "open", ("and", one, other):
            return [(rest + [one, other], goal)]
        case "cases", ("or", one, other):
            return [(rest + [one], goal), (rest + [other], goal)]
        case "idle", ("gives", "nought", gain):
            return [(rest, goal)]
        case "use", ("gives", str() as letter, gain):
            return [(rest + [gain], goal)] if letter != NOUGHT and letter in heap else None
        case "curry", ("gives", ("and", one, other), gain):
            return [(rest + [("gives", one, ("gives", other, gain))], goal)]
        case "split", ("gives", ("or", one, other), gain):
            return [(rest + [("gives", one, gain), ("gives", other, gain)], goal)]
        case "try", ("gives", ("gives", one, other), gain):
            return [(rest + [("gives", other, gain)], ("gives", one, other)), (rest + [gain], goal)]
    return None


def plain_needs(heap, goal, rule, about):
    """The needs, or None where the rule does not fit."""
    if rule in GOAL_RULES:
        return rows_by_goal(heap, goal, rule) if about == goal else None
    return rows_by_heap(heap, goal, rule, about) if about in heap else None


def plain_stands(heap, goal, reason):
    """Whether a reason, of the right form, stands."""
    rule, about, parts = reason
    rows = plain_needs(heap, goal, rule, about)
    if rows is None or len(rows) != len(parts):
        return False
    return all(plain_stands(more, wanted, part) for (more, wanted), part in zip(rows, parts))


def is_reason_form(thing):
    """Whether a thing is a tuple of a rule, a statement (a text or a tuple) and a list of such."""
    return (
        type(thing) is tuple and len(thing) == 3 and thing[0] in RULES and type(thing[1]) in (str, tuple)
        and type(thing[2]) is list and all(is_reason_form(part) for part in thing[2])
    )


def worlds_of(tree):
    yield tree
    for above in tree[1]:
        yield from worlds_of(above)


def plain_holds(tree, statement):
    if isinstance(statement, str):
        return statement in tree[0]
    sign, one, other = statement
    if sign == "and":
        return plain_holds(tree, one) and plain_holds(tree, other)
    if sign == "or":
        return plain_holds(tree, one) or plain_holds(tree, other)
    return all(plain_holds(world, other) for world in worlds_of(tree) if plain_holds(world, one))


def plain_refutes(tree, heap, goal):
    return all(plain_holds(tree, each) for each in heap) and not plain_holds(tree, goal)


def is_tree_form(thing, beneath=()):
    """Whether a thing is a tree, its letters being right ones."""
    if type(thing) is not tuple or len(thing) != 2 or type(thing[0]) is not list or type(thing[1]) is not list:
        return False
    letters, above = thing
    return (
        letters == sorted(set(letters)) and NOUGHT not in letters and set(beneath) <= set(letters)
        and all(is_tree_form(each, letters) for each in above)
    )


def letters_of(statement):
    """The letters of a statement, as a set."""
    if isinstance(statement, str):
        return {statement} - {NOUGHT}
    return letters_of(statement[1]) | letters_of(statement[2])


def tuples_of(statement):
    """The tuples of a statement, each as often as it stands there."""
    if isinstance(statement, tuple):
        yield statement
        for side in statement[1:]:
            yield from tuples_of(side)


def is_short(statement):
    """Whether a statement is short, what is alike being told by the program."""
    return statement == TRUTH or not any(
        alike(part, other) for part in tuples_of(statement) for other in (TRUTH, NOUGHT, part[1], part[2])
    )


def lists_in(thing):
    """All lists in a thing, each as often as it stands there."""
    found = []
    waiting = [thing]
    while waiting:
        part = waiting.pop()
        if isinstance(part, list):
            found.append(part)
        if isinstance(part, (list, tuple)):
            waiting.extend(part)
    return found


def all_lists_differ(*things):
    """Whether no list stands at two places of all these things together."""
    lists = lists_in(list(things))
    return len({id(each) for each in lists}) == len(lists)


def spoil(thing):
    """Change every list in a thing."""
    for each in lists_in(thing):
        each.append("spoiled")
        each.insert(0, None)


def random_statement(chance, size, leaves, signs=SIGNS):
    if size == 0:
        return chance.choice(leaves)
    left = chance.randrange(size)
    return (
        chance.choice(signs),
        random_statement(chance, left, leaves, signs),
        random_statement(chance, size - 1 - left, leaves, signs),
    )


def random_row(chance, size, many, leaves, signs=SIGNS):
    """A row with so many statements in its heap, and so many tuples in all."""
    sizes = [0] * (many + 1)
    for each in range(size):
        sizes[chance.randrange(many + 1)] += 1
    *heap, goal = [random_statement(chance, each, leaves, signs) for each in sizes]
    return heap, goal


def random_rows(seed, count):
    """Rows over one to four letters, with all signs, heaps of none to six statements, up to twelve tuples."""
    chance = random.Random(seed)
    leaves = [list("a"), list("ab"), ["a", NOUGHT], ["a", "b", NOUGHT], ["a", "b", "c", NOUGHT]]
    leaves.append(["a", "b", "c", "d", NOUGHT])
    signs = [SIGNS, ("gives",), ("or", "gives"), ("gives", "gives", "or", "and")]
    for turn in range(count):
        many = chance.randrange(7)
        yield random_row(chance, chance.randrange(13), many, chance.choice(leaves), chance.choice(signs))
