"""Letters taken out of statements: what is left, and what is needed."""

from lesssay.bits import bits_of
from lesssay.errors import NoLetter, TooMany
from lesssay.settling import reason_for
from lesssay.shortening import short_number
from lesssay.statements import is_letter, letters, tuples
from lesssay.taker import Taker
from lesssay.trimming import trimmed

MOST_TUPLES = 5
MOST_LETTERS = 3


def demand_letters(thing):
    """Refuse any thing that is no list of letters."""
    if not isinstance(thing, list) or not all([is_letter(each) for each in thing]):
        raise NoLetter("this is no list of letters")


def demand_few(statement):
    """Refuse a statement out of which no letters are taken."""
    if tuples(statement) > MOST_TUPLES or len(letters(statement)) > MOST_LETTERS:
        raise TooMany("the statement has too many tuples or letters")


def left(statement, gone):
    """The strongest short statement without these letters that the statement gives."""
    demand_letters(gone)
    demand_few(statement)
    taker = Taker(gone)
    whole = short_number(taker.search, statement)
    number = trimmed(taker.search, taker.left_of(bits_of([whole])))
    return taker.stock.statements[number]


def needed(statement, gone):
    """The weakest short statement without these letters that gives the statement."""
    demand_letters(gone)
    demand_few(statement)
    taker = Taker(gone)
    whole = short_number(taker.search, statement)
    number = trimmed(taker.search, taker.needed_for((bits_of([]), whole)))
    return taker.stock.statements[number]


def papers(statement, gone):
    """What is left, a reason that the statement gives it, what is needed, a reason that it gives the statement."""
    most, least = left(statement, gone), needed(statement, gone)
    return most, reason_for(statement, most), least, reason_for(least, statement)
