"""The ladder of a letter: its rungs, and the places of statements of one letter on it."""

from lesssay.errors import NoLetter, NoRung, TooMany
from lesssay.settling import alike, reason_for, settled
from lesssay.statements import NOUGHT, is_letter, letters, tuples

HIGHEST = 12
MOST_TUPLES = 8


def is_rung_number(thing):
    """Whether any thing is the number of a rung."""
    # A truth is an int to Python, but no whole number.
    return isinstance(thing, int) and not isinstance(thing, bool) and 0 <= thing <= HIGHEST


def rung(number, letter):
    """The rung of the letter that has this number."""
    if not is_rung_number(number):
        raise NoRung("this is no number of a rung")
    if not is_letter(letter):
        raise NoLetter("this is no letter")
    rungs = [NOUGHT, letter, ("gives", letter, NOUGHT)]
    while len(rungs) <= number:
        odd, even = rungs[-2:]
        rungs.append(("or", odd, even))
        rungs.append(("gives", even, odd))
    return rungs[number]


def demand_one_letter(statement, letter):
    """Refuse any thing that is no letter, and a statement that has another one."""
    if not is_letter(letter) or any([each != letter for each in letters(statement)]):
        raise NoLetter("this is no letter, or the statement has another one")


def place(statement, letter):
    """("truth", reason), or ("rung", number, reason, reason) with the rung of the letter that is alike with it."""
    demand_one_letter(statement, letter)
    if tuples(statement) > MOST_TUPLES:
        raise TooMany("the statement has too many tuples")
    kind, paper = settled([], statement)
    if kind == "reason":
        return "truth", paper
    number = 0
    # A statement of so few tuples that is not alike with truth is alike with a rung up to the highest.
    while not alike(statement, rung(number, letter)):
        number += 1
    found = rung(number, letter)
    return "rung", number, reason_for(statement, found), reason_for(found, statement)
