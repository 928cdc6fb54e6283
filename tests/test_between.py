import copy
import random
import unittest

from lesssay.between import between
from lesssay.errors import NoLetter, NoName, NoReason, NoRule, NoRung, NoText, SayError, TooMany
from lesssay.reasons import stands
from lesssay.settling import gives
from lesssay.statements import is_statement, tuples
from lesssay.trees import is_tree, refutes
from tests.checks import (
    all_lists_differ, is_reason_form, is_short, is_tree_form, letters_of, plain_refutes, plain_stands,
    random_statement, spoil,
)
from tests.samples import NOUGHT, SIGNS, TRUTH, nested, small_statements


def deny(statement):
    return ("gives", statement, NOUGHT)


# The first gives the second.
GIVEN = [
    ("p", "p"),
    (NOUGHT, "q"),
    (NOUGHT, NOUGHT),
    ("p", TRUTH),
    (TRUTH, TRUTH),
    (NOUGHT, TRUTH),
    (TRUTH, ("gives", "q", "q")),
    (("and", "p", deny("p")), "q"),
    ("p", ("gives", "q", "q")),
    ("p", deny(deny(("or", "q", deny("q"))))),
    (("and", "p", "q"), ("or", "q", "r")),
    (("and", "p", "q"), ("or", "p", "r")),
    (("and", "a", ("and", "b", "c")), ("or", "c", ("or", "d", "e"))),
    (("and", ("gives", "q", "p"), ("gives", "p", "r")), ("gives", "q", ("or", "r", "s"))),
    (("and", "p", ("gives", "p", "q")), ("gives", ("gives", "q", "r"), "r")),
    (("and", ("gives", "p", "q"), deny("q")), ("gives", ("and", "r", "p"), NOUGHT)),
    (("and", ("or", "p", "q"), deny("p")), ("or", "q", "r")),
    (("and", deny(deny("p")), ("gives", "p", "q")), ("gives", ("gives", "q", NOUGHT), "r")),
    (("or", "p", ("and", "q", "p")), ("gives", ("gives", "p", "r"), "r")),
    (("gives", ("gives", "p", "q"), "r"), ("gives", "q", ("or", "r", "s"))),
]

# It does not.
NOT_GIVEN = [
    ("p", "q"),
    ("p", NOUGHT),
    (TRUTH, "p"),
    (TRUTH, NOUGHT),
    (TRUTH, ("or", "p", deny("p"))),
    (deny(deny("p")), "p"),
    (("or", "p", "q"), ("and", "p", "q")),
    (("gives", "p", "q"), ("or", deny("p"), "q")),
    ("a", ("gives", ("gives", ("gives", "p", "q"), "p"), "p")),
    (("gives", "p", ("or", "q", "r")), ("or", ("gives", "p", "q"), ("gives", "p", "r"))),
]
LEAVES = [["p"], ["p", NOUGHT], ["p", "q"], ["p", "q", NOUGHT], ["p", "q", "r"], ["q", "r", "s"], ["r", "s", NOUGHT]]


def pairs(seed, many):
    chance = random.Random(seed)
    for turn in range(many):
        signs = chance.choice([SIGNS, ("gives", "or"), ("gives", "and", "or", "or")])
        one, other = [random_statement(chance, chance.randrange(6), chance.choice(LEAVES), signs) for each in "ab"]
        yield one, other


class Case(unittest.TestCase):
    def check(self, one, other):
        before = copy.deepcopy((one, other))
        told = between(one, other)
        self.assertEqual((one, other), before)
        self.assertIs(type(told), tuple)
        self.assertTrue(all_lists_differ(told))
        if told[0] == "between":
            kind, middle, there, on = told
            self.assertIs(is_statement(middle), True)
            self.assertLessEqual(letters_of(middle), letters_of(one) & letters_of(other), (one, other, middle))
            self.assertTrue(is_short(middle), (one, other, middle))
            for heap, goal, reason in (([one], middle, there), ([middle], other, on)):
                self.assertTrue(is_reason_form(reason))
                self.assertTrue(plain_stands(heap, goal, reason), (heap, goal, reason))
                self.assertIs(stands(heap, goal, reason), True)
        else:
            kind, tree = told
            self.assertEqual(kind, "tree")
            self.assertTrue(is_tree_form(tree), tree)
            self.assertTrue(plain_refutes(tree, [one], other), (one, other, tree))
            self.assertIs(is_tree(tree), True)
            self.assertIs(refutes(tree, [one], other), True)
        self.assertEqual(told[0] == "between", gives(one, other))
        return told


class Between(Case):
    def test_given(self):
        for one, other in GIVEN:
            self.assertEqual(self.check(one, other)[0], "between", (one, other))

    def test_not_given(self):
        for one, other in NOT_GIVEN:
            self.assertEqual(self.check(one, other)[0], "tree", (one, other))

    def test_no_letters_in_common(self):
        for one, other in GIVEN:
            if not letters_of(one) & letters_of(other):
                self.assertIn(self.check(one, other)[1], (NOUGHT, TRUTH))
        self.assertEqual(self.check(("and", "p", deny("p")), "q")[1], NOUGHT)
        self.assertEqual(self.check("p", ("gives", "q", "q"))[1], TRUTH)

    def test_one_letter_in_common(self):
        self.assertEqual(self.check(("and", "p", "q"), ("or", "q", "r"))[1], "q")
        self.assertEqual(self.check(("and", "a", ("and", "b", "c")), ("or", "c", ("or", "d", "e")))[1], "c")

    def test_truth_and_nought(self):
        for one, other in pairs(70, 60):
            self.assertEqual(self.check(NOUGHT, other)[1], NOUGHT)
            middle = self.check(one, TRUTH)[1]
            self.assertIn(middle, (NOUGHT, TRUTH))
            self.check(TRUTH, other)
            self.check(one, NOUGHT)

    def test_with_itself(self):
        for one, other in pairs(71, 60):
            self.assertEqual(self.check(one, one)[0], "between")

    def test_small_ones(self):
        small = small_statements(1, ["p", "q", NOUGHT])
        others = small_statements(1, ["q", "r", NOUGHT])
        for one in small:
            for other in others:
                self.check(one, other)

    def test_many(self):
        told = {"between": 0, "tree": 0}
        for one, other in pairs(72, 500):
            told[self.check(one, other)[0]] += 1
        self.assertGreater(min(told.values()), 100)

    def test_other_letters_than_in_common(self):
        # ("and", A, B) gives ("or", A, D), with at most one letter of B and of D that A has not.
        chance = random.Random(73)
        for turn in range(120):
            shared = random_statement(chance, 2, ["p", "q", NOUGHT])
            one = ("and", shared, random_statement(chance, 2, ["p", "r", NOUGHT]))
            other = ("or", random_statement(chance, 2, ["q", "s", NOUGHT]), shared)
            self.assertEqual(self.check(one, other)[0], "between")


class Refused(Case):
    def refused(self, one, other):
        with self.assertRaises(TooMany) as caught:
            between(one, other)
        self.assertIsInstance(caught.exception, SayError)
        self.assertIsInstance(caught.exception, ValueError)
        self.assertNotIsInstance(caught.exception, (NoRule, NoReason, NoLetter, NoRung, NoText, NoName))

    def test_either_side(self):
        large = [
            nested("p", 6, deny),
            nested(NOUGHT, 6, deny),
            nested("p", 9, lambda part: ("and", part, "q")),
            ("and", ("or", "p", "q"), ("or", "r", "s")),
            ("or", "a", ("or", "b", ("or", "c", ("or", "d", "e")))),
        ]
        for one in large:
            for other in ("p", NOUGHT, TRUTH, one):
                self.refused(one, other)
                self.refused(other, one)

    def test_at_the_bound(self):
        five = [
            nested("p", 5, deny),
            ("and", "p", ("and", "q", ("and", "r", ("and", "p", ("and", "q", "r"))))),
            ("or", "r", ("or", "s", ("or", "t", ("or", "r", ("or", "s", "t"))))),
            ("gives", ("gives", ("gives", ("gives", ("gives", "p", "q"), "r"), "p"), "q"), "r"),
        ]
        for one in five:
            self.assertEqual(tuples(one), 5)
            for other in five:
                self.check(one, other)


class Keeping(Case):
    def test_what_was_told_is_the_askers_own(self):
        for one, other in GIVEN + NOT_GIVEN:
            first = between(one, other)
            kept = copy.deepcopy(first)
            second = between(one, other)
            self.assertTrue(all_lists_differ(first, second))
            spoil(first)
            self.assertEqual(second, kept)
            self.assertEqual(between(one, other), kept)

    def test_what_was_told_again(self):
        done = 0
        for one, other in GIVEN + list(pairs(74, 80)):
            told = self.check(one, other)
            if told[0] == "between" and tuples(told[1]) <= 5:
                self.assertEqual(self.check(one, told[1])[0], "between")
                self.assertEqual(self.check(told[1], other)[0], "between")
                done += 1
        self.assertGreater(done, 30)


if __name__ == "__main__":
    unittest.main()
