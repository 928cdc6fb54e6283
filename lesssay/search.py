"""The search that settles rows: each by a lemma, which is a reason, or by a world of a forest that refutes it.

A row is here a tuple (heap, goal): the numbers of the heap's statements in a stock, as bits, and the goal's number.
How often a statement stands in the heap is not kept: what stands for a row stands for each one with more.
"""

from lesssay.bits import bits_of, has, numbers_of, within
from lesssay.forest import Forest
from lesssay.rules import GOAL_RULES, asked, changes, heap_rule
from lesssay.statements import NOUGHT
from lesssay.stock import LETTER, Stock

# Safe rules about the heap with at most one need, which are taken ahead of those that make two rows of one.
PLAIN_RULES = ("void", "here", "open", "use", "curry", "split")


class Lemma:
    """That a heap, by a rule, gives the goal by which the lemma is kept; its parts are lemmas of the rule's needs."""

    def __init__(self, heap, rule, about, parts):
        # No more than the reason uses, so that the lemma settles as many rows as may be.
        self.heap = heap
        self.rule = rule
        self.about = about
        self.parts = parts


class Search:
    """What is known of rows: lemmas, and a forest of worlds. Both serve all rows that are settled later."""

    def __init__(self):
        self.stock = Stock()
        self.forest = Forest(self.stock)
        self.lemmas = {}

    def row(self, heap, goal):
        """The row of a list of statements and a statement."""
        return bits_of([self.stock.number(statement) for statement in heap]), self.stock.number(goal)

    def lemma(self, row):
        """A lemma that stands for the row, or None where none is known."""
        heap, goal = row
        for lemma in self.lemmas.get(goal, []):
            if within(lemma.heap, heap):
                return lemma
        return None

    def is_refuted(self, row):
        """Whether a world is known that refutes the row."""
        heap, goal = row
        return self.forest.refuters(heap, goal) != 0

    def is_unsettled(self, row):
        return self.lemma(row) is None and not self.is_refuted(row)

    def settle(self, row):
        """Go on until a lemma or a world is known that settles the row; the lemma, or None."""
        # A list of what waits, not recursion: there may be more lesser rows within one another than calls.
        waiting = [row]
        while waiting:
            lesser_row = self.step(waiting[-1])
            if lesser_row is None:
                waiting.pop()
            else:
                waiting.append(lesser_row)
        return self.lemma(row)

    def given(self, numbers, goal):
        """Whether the statements of these numbers give the one of the goal's number."""
        return self.settle((bits_of(numbers), goal)) is not None

    def step(self, row):
        """Settle the row by what is known, and tell None; or tell a lesser row that must be settled ahead of it."""
        if not self.is_unsettled(row):
            return None
        heap, goal = row
        kept = self.without_idle(heap, goal)
        if kept != heap:
            return kept, goal
        safe = self.safe_rule(heap, goal)
        if safe is None:
            return self.choose(row)
        rule, about = safe
        return self.by_rule(row, rule, about)

    def without_idle(self, heap, goal):
        """The heap without statements that the others give by their form: what settles the rest settles the row."""
        if has(heap, goal):
            return bits_of([goal])
        return bits_of([number for number in numbers_of(heap) if not self.is_idle(heap, number)])

    def is_idle(self, heap, number):
        """Whether an or, or a gives, is given by a side of it that stands in the heap, or by nothing at all."""
        kind = self.stock.kinds[number]
        if kind != "or" and kind != "gives":
            return False
        one, other = self.stock.sides[number]
        if has(heap, other):
            return True
        if kind == "or":
            return has(heap, one)
        return one == other or self.stock.kinds[one] == NOUGHT

    def safe_rule(self, heap, goal):
        """A safe rule that fits the row and the statement that it is about, or None where there is none."""
        rules = [(heap_rule(self.stock, about), about) for about in numbers_of(heap)]
        for rule, about in rules:
            if rule in PLAIN_RULES and within(bits_of(asked(self.stock, rule, about)), heap):
                if rule != "here" or about == goal:
                    return rule, about
        kind = self.stock.kinds[goal]
        if kind == "gives":
            return "assume", goal
        if kind == "and":
            return "both", goal
        for rule, about in rules:
            if rule == "cases":
                return rule, about
        return None

    def rows_for(self, row, rule, about):
        """The rows that the row needs by a rule that fits, each with what comes more to its heap, as bits."""
        heap, goal = row
        rest = heap
        if rule not in GOAL_RULES:
            rest = heap & ~bits_of([about])
        told = [(bits_of(more), wanted) for more, wanted in changes(self.stock, goal, rule, about)]
        return [(more, (rest | more, wanted)) for more, wanted in told]

    def by_rule(self, row, rule, about):
        """Settle the row by a rule, each of whose needs is refuted only where the row is."""
        used = bits_of(asked(self.stock, rule, about))
        parts = []
        for more, need in self.rows_for(row, rule, about):
            part = self.lemma(need)
            if part is None:
                return None if self.is_refuted(need) else need
            used |= part.heap & ~more
            parts.append(part)
        self.lemmas.setdefault(row[1], []).append(Lemma(used, rule, about, parts))
        return None

    def choose(self, row):
        """Settle a row that no safe rule fits: by a rule whose first need has a lemma, or else by a new world."""
        heap, goal = row
        offers = [("first", goal), ("second", goal)] if self.stock.kinds[goal] == "or" else []
        tries = [("try", about) for about in numbers_of(heap) if heap_rule(self.stock, about) == "try"]
        firsts = []
        for rule, about in offers + tries:
            first = self.rows_for(row, rule, about)[0][1]
            if self.lemma(first) is not None:
                return self.by_rule(row, rule, about)
            firsts.append(first)
        for first in firsts:
            if not self.is_refuted(first):
                return first
        self.refute(heap, firsts)
        return None

    def refute(self, heap, firsts):
        """A new world with the letters of the heap, at which the goal of none of these refuted rows holds."""
        above = []
        for first in firsts:
            wanted = first[1]
            # A letter that is not in the heap, and nought, do not hold there anyway.
            if self.stock.kinds[wanted] not in (LETTER, NOUGHT):
                if all([self.forest.holds_at(world, wanted) for world in above]):
                    above.append(self.witness(first))
        kinds, statements = self.stock.kinds, self.stock.statements
        letters = [statements[number] for number in numbers_of(heap) if kinds[number] == LETTER]
        self.forest.grow(sorted(letters), above)

    def witness(self, row):
        """A world that refutes the row and, of a goal that is a gives, has its first side."""
        heap, goal = row
        if self.stock.kinds[goal] != "gives":
            return self.forest.refuter(heap, goal)
        # Only where the first side of a try's condition holds does the try itself hold there, too.
        one, other = self.stock.sides[goal]
        return self.forest.refuter(heap | bits_of([one]), other)
