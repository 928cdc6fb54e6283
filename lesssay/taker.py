"""What is left of heaps, and what is needed for heaps to give a goal, some letters being taken out.

A letter is inner where it is taken out, else outer. Statements are told by their numbers in the stock of a search,
heaps by the bits of these; what is left and what is needed is short.
"""

from lesssay.bits import bits_of, numbers_of, within
from lesssay.rules import asked, heap_rule
from lesssay.search import Search
from lesssay.shortening import short_made, short_number
from lesssay.statements import NOUGHT, TRUTH, letters
from lesssay.stock import LETTER

# The rules by which a heap is changed wherever they fit, whatever it is to give.
STEPS = ("open", "cases", "use", "idle", "curry", "split")


class Taker:
    """Takes the same letters out of any heaps; what was found once is kept."""

    def __init__(self, gone):
        self.gone = list(gone)
        self.search = Search()
        self.stock = self.search.stock
        self.nought = self.stock.leaf(NOUGHT)
        self.truth = self.stock.number(TRUTH)
        self.lefts = {}
        self.needs = {}

    def short_of(self, number):
        """A short statement alike with this one."""
        return short_number(self.search, self.stock.statements[number])

    def is_outer(self, number):
        """Whether the statement has no inner letter."""
        return not any([letter in self.gone for letter in letters(self.stock.statements[number])])

    def is_outer_letter(self, number):
        return self.stock.kinds[number] == LETTER and self.is_outer(number)

    def is_outer_use(self, number):
        """Whether "use" may be about the statement, with an outer letter."""
        return heap_rule(self.stock, number) == "use" and self.is_outer(self.stock.sides[number][0])

    def one_gives(self, one, other):
        return short_made(self.search, "gives", one, other)

    def all_of(self, numbers):
        """These short statements by "and"."""
        whole = self.truth
        for number in numbers:
            whole = short_made(self.search, "and", whole, number)
        return whole

    def any_of(self, numbers):
        """These short statements by "or"."""
        whole = self.nought
        for number in numbers:
            whole = short_made(self.search, "or", whole, number)
        return whole

    def rows_by(self, heap, goal, about):
        """The rows that a row needs by the one rule that may be about this statement of its heap."""
        rule = heap_rule(self.stock, about)
        return [need for more, need in self.search.rows_for((heap, goal), rule, about)]

    def changed(self, heap):
        """The heaps that a step makes of this one: none where no step fits."""
        for about in numbers_of(heap):
            rule = heap_rule(self.stock, about)
            if rule in STEPS and within(bits_of(asked(self.stock, rule, about)), heap):
                return [more for more, goal in self.rows_by(heap, self.nought, about)]
        return []

    def left_of(self, heap):
        """What is left of the heap."""
        if heap not in self.lefts:
            self.lefts[heap] = self.find_left(heap)
        return self.lefts[heap]

    def find_left(self, heap):
        have = numbers_of(heap)
        if self.search.given(have, self.nought):
            return self.nought
        if all([self.is_outer(number) for number in have]):
            return self.all_of([self.short_of(number) for number in have])
        heaps = self.changed(heap)
        if heaps:
            return self.any_of([self.left_of(each) for each in heaps])
        outer = [number for number in have if self.is_outer_letter(number)]
        others = heap & ~bits_of(outer)
        return self.all_of(outer + [self.left_by(others, about) for about in numbers_of(others)])

    def left_by(self, heap, about):
        """What one statement of a heap to which no step fits adds to what is left of it."""
        if self.is_outer_use(about):
            rest, goal = self.rows_by(heap, self.nought, about)[0]
            return self.one_gives(self.stock.sides[about][0], self.left_of(rest))
        if heap_rule(self.stock, about) == "try":
            first, (rest, goal) = self.rows_by(heap, self.nought, about)
            return self.one_gives(self.needed_for(first), self.left_of(rest))
        return self.truth

    def needed_for(self, row):
        """What is needed for the heap of the row to give its goal."""
        if row not in self.needs:
            self.needs[row] = self.find_needed(row)
        return self.needs[row]

    def find_needed(self, row):
        heap, goal = row
        if self.search.given(numbers_of(heap), goal):
            return self.truth
        if self.is_outer(goal):
            return self.one_gives(self.left_of(heap), self.short_of(goal))
        heaps = self.changed(heap)
        if heaps:
            return self.all_of([self.needed_for((each, goal)) for each in heaps])
        kind = self.stock.kinds[goal]
        if kind == "and":
            return self.all_of([self.needed_for((heap, side)) for side in self.stock.sides[goal]])
        if kind == "gives":
            one, other = self.stock.sides[goal]
            return self.needed_for((heap | bits_of([one]), other))
        outer = [number for number in numbers_of(heap) if self.is_outer_letter(number)]
        others = heap & ~bits_of(outer)
        enough = self.one_gives(self.left_of(others), self.any_of(self.offers(others, goal)))
        return self.one_gives(self.all_of(outer), enough)

    def offers(self, heap, goal):
        """What is each enough for a heap to which no step fits to give a goal that is no and and no gives."""
        sides = self.stock.sides[goal]
        return [self.needed_for((heap, side)) for side in sides] + [
            self.needed_by(heap, goal, about) for about in numbers_of(heap)
        ]

    def needed_by(self, heap, goal, about):
        """What is enough by way of one statement of such a heap."""
        enough = []
        if self.is_outer_use(about):
            enough.append(self.stock.sides[about][0])
        elif heap_rule(self.stock, about) != "try":
            return self.nought
        return self.all_of(enough + [self.needed_for(row) for row in self.rows_by(heap, goal, about)])
