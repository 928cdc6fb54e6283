"""Trees of worlds: tuples (letters, above), and what holds at them."""

from lesssay.forest import Forest
from lesssay.statements import is_letter
from lesssay.stock import Stock


def are_letters(thing):
    """Whether any thing is a list of letters, in the order of texts, each once."""
    if not isinstance(thing, list) or not all([is_letter(each) for each in thing]):
        return False
    return all([one < other for one, other in zip(thing, thing[1:])])


def has_form(thing):
    """Whether any thing is a tuple of letters and a list, whatever stands in the list."""
    if not isinstance(thing, tuple) or len(thing) != 2:
        return False
    return are_letters(thing[0]) and isinstance(thing[1], list)


def is_tree(thing):
    """Whether any thing is a tree."""
    # A list of what waits, each with the letters beneath it, not recursion: a tree may be of any height.
    waiting = [(thing, [])]
    while waiting:
        part, beneath = waiting.pop()
        if not has_form(part):
            return False
        letters, above = part
        if not all([letter in letters for letter in beneath]):
            return False
        waiting.extend([(each, letters) for each in above])
    return True


def flat(tree):
    """The worlds of a tree as tuples (letters, how many trees straight above), each ahead of those above."""
    found = []
    waiting = [tree]
    while waiting:
        letters, above = waiting.pop()
        found.append((letters, len(above)))
        waiting.extend(above[::-1])
    return found


def worlds(tree):
    """How many worlds a tree has, each as often as it stands there."""
    return len(flat(tree))


def planted(forest, tree):
    """The root of the tree in the forest, to which all its worlds come."""
    ready = []
    for letters, many in reversed(flat(tree)):
        above = [ready.pop() for each in range(many)]
        ready.append(forest.grow(letters, above))
    return ready.pop()


def holds(tree, statement):
    """Whether the statement holds at the tree."""
    return not refutes(tree, [], statement)


def refutes(tree, heap, goal):
    """Whether each statement of the heap holds at the tree and the goal does not."""
    stock = Stock()
    forest = Forest(stock)
    root = planted(forest, tree)
    if forest.holds_at(root, stock.number(goal)):
        return False
    return all([forest.holds_at(root, stock.number(statement)) for statement in heap])
