"""Statements as texts: a tuple in brackets, its sign between two blanks."""

from lesssay.errors import NoText
from lesssay.statements import NOUGHT, SIGNS, folded, is_letter

MOST_TUPLES = 10


def show(statement):
    """The text of a statement."""
    return folded(statement, lambda word: word, lambda sign, one, other: f"({one} {sign} {other})")


def word_ahead(text):
    """The small letters with which a text begins."""
    at = 0
    while at < len(text) and "a" <= text[at] <= "z":
        at += 1
    return text[:at]


def behind_mark(text, mark):
    """What stands behind the mark with which a text must begin."""
    if not text.startswith(mark):
        raise NoText("the text is not written as statements are")
    return text[len(mark):]


def read_sign(text):
    """The sign, in its blanks, with which a text begins, and what stands behind it."""
    sign = word_ahead(text[1:])
    if sign not in SIGNS:
        raise NoText("no sign stands between two sides")
    return sign, behind_mark(text, f" {sign} ")


def read_ahead(text):
    """The statement with which a text begins, and what stands behind it."""
    if not text.startswith("("):
        word = word_ahead(text)
        if word != NOUGHT and not is_letter(word):
            raise NoText("no letter and no nought stands where one must")
        return word, text[len(word):]
    one, behind = read_ahead(text[1:])
    sign, behind = read_sign(behind)
    other, behind = read_ahead(behind)
    return (sign, one, other), behind_mark(behind, ")")


def read(text):
    """The statement that is written as this text."""
    if not isinstance(text, str):
        raise NoText("this is no text")
    # Counted ahead, so that brackets are never deeper within one another than Python's calls reach.
    if text.count("(") > MOST_TUPLES:
        raise NoText("the text has too many tuples")
    statement, behind = read_ahead(text)
    if behind != "":
        raise NoText("more stands behind the statement")
    return statement
