"""Statements, things that are none, and changes to lists, which several tests use."""

NOUGHT = "nought"
TRUTH = ("gives", "nought", "nought")
SIGNS = ("and", "or", "gives")

NO_LEAVES = [
    "A", "aB", "Ab", "a1", "1", "", "abcdefghi", "and", "or", "gives", "NOUGHT", "Nought", "a b", " a", "a ",
    "a\n", "a_", "a-b", "(", "`", "{", "\u00e4", "\u00df", "\u0131", "\uff41", "\u00aa", "\x00",
    0, 1, -1, 10 ** 30, True, False, None,
    [], ["a"], ["and", "a", "b"], (), ("a",), ("and",), ("and", "a"), ("and", "a", "b", "a"),
    ("not", "a", "b"), ("nought", "a", "b"), ("a", "b", "a"), ("And", "a", "b"), ("", "a", "b"),
    (True, "a", "b"), (1, "a", "b"), (None, "a", "b"), (["and"], "a", "b"), (("and",), "a", "b"),
    (("and", "a", "b"), "a", "b"), ("a", "and", "b"), ("and", "a", ["b"]), ("and", ("or", "a"), "b"),
]

LETTERS = [
    "a", "z", "az", "abcdefgh", "zzzzzzzz", "andy", "orb", "givesx", "noughty", "an", "o", "give", "nough",
    "ands", "oror", "band", "for", "xgives", "truth",
]


def nested(thing, depth, wrap):
    """The thing within as many others as the depth says, each made by wrap."""
    for level in range(depth):
        thing = wrap(thing)
    return thing


def small_statements(most, leaves):
    """All statements over the leaves with at most so many tuples."""
    by_size = [list(leaves)]
    for size in range(1, most + 1):
        by_size.append([
            (sign, one, other)
            for sign in SIGNS
            for left in range(size)
            for one in by_size[left]
            for other in by_size[size - 1 - left]
        ])
    return [statement for group in by_size for statement in group]


ODD_THINGS = NO_LEAVES + [
    nested("a", 60, lambda thing: [thing]),
    nested("a", 60, lambda thing: (thing,)),
    nested("A", 59, lambda thing: ("gives", "a", thing)),
    nested([], 59, lambda thing: ("and", thing, "a")),
    ("a",) * 2000,
    ["a"] * 1999,
    ("and",) + ("a",) * 1998,
]
