import copy
import random
import unittest

from lesssay.settling import alike
from lesssay.shortening import short
from lesssay.statements import is_statement, put, tuples
from tests.checks import is_short, letters_of, random_statement, tuples_of
from tests.samples import NOUGHT, SIGNS, TRUTH, nested, small_statements

LEAVES = [["a"], ["a", NOUGHT], ["a", "b"], ["a", "b", NOUGHT], ["a", "b", "c", NOUGHT], ["a", "b", "c", "d"]]
LEAVES.append(["a", "b", "c", "d", NOUGHT])


def deny(statement):
    return ("gives", statement, NOUGHT)


MIDDLE = ("or", "a", deny("a"))

# Short as they are.
SHORT = [
    "a", NOUGHT, TRUTH, "zebra",
    ("and", "a", "b"), ("or", "a", "b"), ("gives", "a", "b"), deny("a"), deny(deny("a")), deny(deny(deny("a"))),
    MIDDLE, ("or", deny("a"), deny(deny("a"))), ("gives", deny(deny("a")), "a"),
    ("gives", ("gives", ("gives", "a", "b"), "a"), "a"),
    ("and", ("or", "a", "b"), ("or", "a", "c")),
    ("or", ("and", "a", "b"), ("and", "c", "d")),
    ("gives", "a", ("gives", "b", ("gives", "c", "d"))),
]

ALIKE_WITH_TRUTH = [
    TRUTH,
    ("gives", "a", "a"),
    ("gives", NOUGHT, "a"),
    ("gives", "a", TRUTH),
    ("gives", "a", ("gives", "b", "a")),
    ("and", TRUTH, TRUTH),
    ("or", "a", TRUTH),
    ("or", ("gives", "b", "b"), "a"),
    deny(deny(MIDDLE)),
    deny(("and", "a", deny("a"))),
    ("gives", ("and", "a", "b"), ("or", "b", "c")),
    ("gives", TRUTH, TRUTH),
    deny(NOUGHT),
]

ALIKE_WITH_NOUGHT = [
    NOUGHT,
    ("and", "a", NOUGHT),
    ("and", NOUGHT, "a"),
    ("or", NOUGHT, NOUGHT),
    ("and", "a", deny("a")),
    ("and", deny(deny("a")), deny("a")),
    deny(TRUTH),
    deny(("gives", "a", "a")),
    deny(deny(deny(MIDDLE))),
    ("or", ("and", "a", deny("a")), ("and", NOUGHT, "b")),
    ("gives", TRUTH, NOUGHT),
]

# Each with what is told of it; no other short statement could be.
ONE_SIDE = [
    (("and", "a", "a"), "a"),
    (("and", "a", TRUTH), "a"),
    (("and", TRUTH, "a"), "a"),
    (("or", "a", NOUGHT), "a"),
    (("or", NOUGHT, "a"), "a"),
    (("or", "a", "a"), "a"),
    (("gives", TRUTH, "a"), "a"),
    (("and", "a", ("or", "a", "b")), "a"),
    (("or", ("and", "a", "b"), "a"), "a"),
    (("and", "a", ("and", "b", deny("b"))), NOUGHT),
    (("gives", ("or", "b", ("gives", "a", "a")), ("and", "a", "a")), "a"),
    (("or", ("and", "b", NOUGHT), ("or", "a", "a")), "a"),
]


class Short(unittest.TestCase):
    def check(self, statement):
        told = short(statement)
        self.assertIs(is_statement(told), True)
        self.assertIs(alike(told, statement), True, (statement, told))
        self.assertLessEqual(letters_of(told), letters_of(statement))
        self.assertTrue(is_short(told), (statement, told))
        return told

    def test_what_is_short_already(self):
        for statement in SHORT:
            self.assertTrue(is_short(statement))
            self.check(statement)

    def test_alike_with_truth(self):
        for statement in ALIKE_WITH_TRUTH:
            self.assertEqual(self.check(statement), TRUTH)

    def test_alike_with_nought(self):
        for statement in ALIKE_WITH_NOUGHT:
            self.assertEqual(self.check(statement), NOUGHT)

    def test_alike_with_a_side(self):
        for statement, told in ONE_SIDE:
            self.assertEqual(self.check(statement), told)

    def test_sides_within(self):
        for statement, told in ONE_SIDE:
            for sign in SIGNS:
                self.check((sign, statement, "c"))
                self.check((sign, "c", statement))
                self.check((sign, statement, statement))
        self.assertEqual(short(("gives", "c", ("and", "a", "a"))), ("gives", "c", "a"))
        self.assertEqual(short(("or", ("or", NOUGHT, "a"), "c")), ("or", "a", "c"))

    def test_all_small_ones(self):
        for statement in small_statements(2, ["a", "b", NOUGHT]):
            self.check(statement)

    def test_none_to_ten_tuples(self):
        chance = random.Random(40)
        for leaves in LEAVES:
            for size in range(11):
                for turn in range(6):
                    self.check(random_statement(chance, size, leaves))

    def test_what_was_told_again(self):
        chance = random.Random(41)
        for turn in range(40):
            statement = random_statement(chance, 10, chance.choice(LEAVES))
            told = self.check(statement)
            again = self.check(told)
            for sign in SIGNS:
                self.check((sign, told, again))
                self.check((sign, ("or", "a", statement), told))

    def test_letters_put(self):
        chance = random.Random(42)
        for turn in range(20):
            one, other = [random_statement(chance, 8, ["a", "b", "c", NOUGHT]) for each in "ab"]
            self.check(put(one, "a", other))

    def test_very_deep(self):
        deep = nested("a", 900, lambda part: ("and", part, TRUTH))
        self.assertEqual(short(deep), "a")
        deep = nested("a", 900, lambda part: ("gives", "b", part))
        self.assertIs(alike(short(deep), ("gives", "b", "a")), True)
        self.assertLessEqual(tuples(short(deep)), 1)
        deep = nested("a", 900, deny)
        told = short(deep)
        self.assertIs(alike(told, deny(deny("a"))), True)

    def test_the_check_itself(self):
        for statement in (("and", "a", "a"), ("or", TRUTH, "a"), ("gives", "a", "a"), ("or", "b", ("and", "a", "a"))):
            self.assertFalse(is_short(statement))
        self.assertEqual(len(list(tuples_of(("and", MIDDLE, MIDDLE)))), 5)

    def test_same_answers(self):
        chance = random.Random(43)
        for turn in range(30):
            statement = random_statement(chance, 9, LEAVES[4])
            before = copy.deepcopy(statement)
            told = short(statement)
            short(random_statement(chance, 9, LEAVES[4]))
            self.assertEqual(statement, before)
            self.assertEqual(short(statement), told)


if __name__ == "__main__":
    unittest.main()
