"""Worlds by numbers, those above a world ahead of it, and the statements that hold at them."""

from lesssay.bits import bits_of, has, numbers_of, within
from lesssay.statements import NOUGHT
from lesssay.stock import LETTER


class Forest:
    """Worlds, each with its letters and the worlds straight above it; several may have the same one above.

    Of each statement of the stock the worlds are kept at which it holds, as bits.
    """

    def __init__(self, stock):
        self.stock = stock
        self.letters = []
        self.above = []
        # How many worlds the tree has of which each world is the root.
        self.many = []
        self.held = []

    def catch_up(self):
        """Find where the statements hold that came to the stock since the last time."""
        while len(self.held) < len(self.stock.kinds):
            self.held.append(self.places(len(self.held)))

    def places(self, number):
        """The worlds at which a statement holds, those of its sides being known."""
        kind = self.stock.kinds[number]
        if kind == NOUGHT:
            return 0
        if kind == LETTER:
            letter = self.stock.statements[number]
            return bits_of([world for world, letters in enumerate(self.letters) if letter in letters])
        one, other = self.stock.sides[number]
        if kind == "and":
            return self.held[one] & self.held[other]
        if kind == "or":
            return self.held[one] | self.held[other]
        return self.all_worlds() & ~self.and_below(self.held[one] & ~self.held[other])

    def all_worlds(self):
        return (1 << len(self.above)) - 1

    def and_below(self, worlds):
        """These worlds and all that are beneath one of them."""
        if worlds == 0:
            return 0
        for world, above in enumerate(self.above):
            if above & worlds:
                worlds |= 1 << world
        return worlds

    def grow(self, letters, above):
        """A new world with these letters, straight beneath those worlds."""
        self.catch_up()
        world = len(self.above)
        self.letters.append(list(letters))
        self.above.append(bits_of(above))
        self.many.append(1 + sum([self.many[each] for each in above]))
        # The sides of a statement stand ahead of it, so they are done when it comes.
        for number, kind in enumerate(self.stock.kinds):
            if self.holds_anew(world, number, kind):
                self.held[number] |= 1 << world
        return world

    def holds_anew(self, world, number, kind):
        """Whether a statement of this kind holds at the newest world, that of its sides being known."""
        if kind == NOUGHT:
            return False
        if kind == LETTER:
            return self.stock.statements[number] in self.letters[world]
        one, other = [has(self.held[side], world) for side in self.stock.sides[number]]
        if kind == "and":
            return one and other
        if kind == "or":
            return one or other
        return (other or not one) and within(self.above[world], self.held[number])

    def holds_at(self, world, number):
        """Whether the statement of this number holds at the world."""
        self.catch_up()
        return has(self.held[number], world)

    def refuters(self, heap, goal):
        """The worlds at which all statements of the heap, told by bits, hold and the goal does not."""
        self.catch_up()
        worlds = self.all_worlds() & ~self.held[goal]
        for number in numbers_of(heap):
            worlds &= self.held[number]
        return worlds

    def refuter(self, heap, goal):
        """Of the worlds that refute the row, one with the fewest worlds in its tree."""
        return min(numbers_of(self.refuters(heap, goal)), key=lambda world: self.many[world])

    def tree(self, root):
        """The tree of which the world is the root, all its lists new."""
        order = []
        waiting = [root]
        while waiting:
            world = waiting.pop()
            order.append(world)
            waiting.extend(numbers_of(self.above[world]))
        built = []
        # From behind, so that all trees above a world are built when it comes.
        for world in reversed(order):
            above = [built.pop() for each in numbers_of(self.above[world])]
            built.append((list(self.letters[world]), above))
        return built.pop()
