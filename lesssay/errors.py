"""The refusals: one base, and each other one straight under it."""


class SayError(ValueError):
    """Any refusal."""


class NoRule(SayError):
    """A rule that does not fit the row."""


class NoReason(SayError):
    """What is no reason that stands for the row."""


class NoLetter(SayError):
    """What is no letter, or no list of letters, or a letter that may not stand there."""


class NoRung(SayError):
    """What is no number of a rung."""


class NoText(SayError):
    """What is not written as it must be."""


class NoName(SayError):
    """A name by which no statement stands."""


class TooMany(SayError):
    """More tuples, letters or statements than the bounds allow."""
