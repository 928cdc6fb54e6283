"""Statements: letters and "nought", put together by tuples (sign, A, B)."""

NOUGHT = "nought"
TRUTH = ("gives", "nought", "nought")
SIGNS = ("and", "or", "gives")
LONGEST = 8


def is_word(thing):
    """Whether any thing is a text of one to eight small letters."""
    if not isinstance(thing, str) or not 1 <= len(thing) <= LONGEST:
        return False
    return all(["a" <= small <= "z" for small in thing])


def is_letter(thing):
    """Whether any thing is a letter."""
    return is_word(thing) and thing != NOUGHT and thing not in SIGNS


def has_sign(part):
    """Whether a tuple has a sign and two places behind it, whatever stands there."""
    return len(part) == 3 and part[0] in SIGNS


def is_statement(thing):
    """Whether any thing is a statement."""
    # A list of what waits, not recursion: what was told may be deeper than Python's calls reach.
    waiting = [thing]
    while waiting:
        part = waiting.pop()
        if isinstance(part, tuple):
            if not has_sign(part):
                return False
            waiting.extend(part[1:])
        elif part != NOUGHT and not is_letter(part):
            return False
    return True


def words(statement):
    """The signs, letters and noughts of a statement, each sign ahead of its two sides."""
    found = []
    waiting = [statement]
    while waiting:
        part = waiting.pop()
        if isinstance(part, tuple):
            sign, one, other = part
            found.append(sign)
            waiting.append(other)
            waiting.append(one)
        else:
            found.append(part)
    return found


def folded(statement, of_word, of_sign):
    """What a statement comes to: each letter and nought by the one function, each sign and its sides by the other."""
    ready = []
    # From behind, so that both sides of a sign are ready when the sign comes.
    for word in reversed(words(statement)):
        if word in SIGNS:
            one = ready.pop()
            other = ready.pop()
            ready.append(of_sign(word, one, other))
        else:
            ready.append(of_word(word))
    return ready.pop()


def tuples(statement):
    """How many tuples a statement has, each as often as it stands there."""
    return len([word for word in words(statement) if word in SIGNS])


def letters(statement):
    """The letters of a statement, in the order of texts, each once."""
    return sorted({word for word in words(statement) if is_letter(word)})


def put(statement, letter, other):
    """The statement with the other one at each place where the letter stands."""
    return folded(
        statement,
        lambda word: other if word == letter else word,
        lambda sign, one, two: (sign, one, two),
    )
