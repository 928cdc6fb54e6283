"""Settings of truths: dicts from letters to True or False, and what is true at all of them."""

from lesssay.settling import settled
from lesssay.statements import NOUGHT, folded, letters


def truth_by_sign(sign, one, other):
    """Whether what the sign makes of two is true, where it is known of these."""
    if sign == "and":
        return one and other
    if sign == "or":
        return one or other
    return other or not one


def is_true(statement, setting):
    """Whether the statement is true at the setting."""
    return folded(
        statement,
        lambda word: word != NOUGHT and setting.get(word, False),
        lambda sign, one, other: truth_by_sign(sign, one, other),
    )


def twice(statement):
    """The statement denied twice."""
    return ("gives", ("gives", statement, NOUGHT), NOUGHT)


def all_settings(names):
    """The settings of just these letters."""
    found = [{}]
    for name in names:
        found = [{**setting, name: truth} for setting in found for truth in (False, True)]
    return found


def always(statement):
    """("always", reason for it denied twice), or ("not", setting) with a setting at which it is not true."""
    for setting in all_settings(letters(statement)):
        if not is_true(statement, setting):
            return "not", setting
    return "always", settled([], twice(statement))[1]
