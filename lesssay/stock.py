"""Statements by numbers: a stock gives each statement one number, that of its sides ahead of its own."""

from lesssay.statements import NOUGHT, folded

LETTER = "letter"


class Stock:
    """Statements that are compared, and kept as keys, by their numbers, however deep they are.

    Of each number: the statement; its kind, which is its sign, "nought" or LETTER; the numbers of its sides.
    """

    def __init__(self):
        self.numbers = {}
        self.statements = []
        self.kinds = []
        self.sides = []
        # Ahead of all others, so that a heap with nought shows it first.
        self.leaf(NOUGHT)

    def enter(self, key, statement, kind, sides):
        """Give the statement its number, where it has none yet."""
        if key not in self.numbers:
            self.numbers[key] = len(self.statements)
            self.statements.append(statement)
            self.kinds.append(kind)
            self.sides.append(sides)
        return self.numbers[key]

    def leaf(self, word):
        """The number of a letter or of nought."""
        return self.enter(word, word, NOUGHT if word == NOUGHT else LETTER, ())

    def made(self, sign, one, other):
        """The number of the statement that the sign makes of two, told by their numbers."""
        statement = (sign, self.statements[one], self.statements[other])
        return self.enter((sign, one, other), statement, sign, (one, other))

    def number(self, statement):
        """The number of a statement."""
        return folded(
            statement,
            lambda word: self.leaf(word),
            lambda sign, one, other: self.made(sign, one, other),
        )
