"""A desk: it keeps a book of statements by names, and answers rows of text."""

from lesssay.errors import NoName, NoText, TooMany
from lesssay.ladder import place
from lesssay.settings import always
from lesssay.settling import settled
from lesssay.statements import TRUTH, is_letter, is_word, letters, tuples
from lesssay.taking import left, needed
from lesssay.texts import read, show

MOST_NAMES = 4
MOST_LETTERS = 4
MOST_KEPT = 10
MOST_ASKED = 12


def in_order(book):
    """The statements of a book, in the order of their names."""
    return [book[name] for name in sorted(book)]


def together(statements):
    """The statements by "and", the first with all others together; truth where there are none."""
    if not statements:
        return TRUTH
    whole = statements[-1]
    for statement in reversed(statements[:-1]):
        whole = ("and", statement, whole)
    return whole


def demand_few(statements, most_tuples):
    """Refuse statements that have together more tuples or letters than they may."""
    found = {letter for statement in statements for letter in letters(statement)}
    if len(found) > MOST_LETTERS or sum([tuples(statement) for statement in statements]) > most_tuples:
        raise TooMany("together the statements have too many tuples or letters")


def demand_letters(words):
    """Refuse a row that does not have letters where they must stand."""
    if not all([is_letter(word) for word in words]):
        raise NoText("no letter stands where one must")


def answer_say(book, rest):
    name, blank, text = rest.partition(" ")
    if not is_word(name):
        raise NoText("no name stands where one must")
    statement = read(text)
    grown = {**book, name: statement}
    if len(grown) > MOST_NAMES:
        raise TooMany("the book has too many names")
    demand_few(in_order(grown), MOST_KEPT)
    book[name] = statement
    return "ok"


def answer_unsay(book, rest):
    if not is_word(rest):
        raise NoText("no name stands where one must")
    if rest not in book:
        raise NoName("no statement stands by this name")
    del book[rest]
    return "ok"


def answer_book(book):
    return "; ".join([f"{name}: {show(book[name])}" for name in sorted(book)]) or "none"


def answer_ask(book, rest):
    goal = read(rest)
    heap = in_order(book)
    demand_few(heap + [goal], MOST_ASKED)
    return "yes" if settled(heap, goal)[0] == "reason" else "no"


def answer_left(book, rest):
    gone = rest.split(" ")
    demand_letters(gone)
    return show(left(together(in_order(book)), gone))


def answer_needed(book, rest):
    letter, blank, text = rest.partition(" ")
    demand_letters([letter])
    statement = read(text)
    if book:
        statement = ("gives", together(in_order(book)), statement)
    return show(needed(statement, [letter]))


def answer_place(book, rest):
    letter, blank, text = rest.partition(" ")
    demand_letters([letter])
    told = place(read(text), letter)
    return "truth" if told[0] == "truth" else f"rung {told[1]}"


def answer_always(book, rest):
    return "yes" if always(read(rest))[0] == "always" else "no"


# The answers to rows by their first words; all but `book`, behind which nothing stands.
ANSWERS = {
    "say": answer_say,
    "unsay": answer_unsay,
    "ask": answer_ask,
    "left": answer_left,
    "needed": answer_needed,
    "place": answer_place,
    "always": answer_always,
}


class Desk:
    """A book of its own, and an answer to each row."""

    def __init__(self):
        self.book = {}

    def say(self, row):
        """The answer to a row."""
        if not isinstance(row, str):
            raise NoText("this is no text")
        if row == "book":
            return answer_book(self.book)
        word, blank, rest = row.partition(" ")
        if word not in ANSWERS:
            raise NoText("this is no row for a desk")
        answer = ANSWERS[word]
        return answer(self.book, rest)
