import copy
import itertools
import random
import unittest

from lesssay.ladder import rung
from lesssay.reasons import stands
from lesssay.settings import always, is_true, twice
from lesssay.settling import gives
from lesssay.statements import put
from tests.checks import (
    all_lists_differ, is_reason_form, letters_of, plain_holds, plain_stands, random_statement, spoil,
)
from tests.samples import NOUGHT, SIGNS, TRUTH, nested, small_statements


def deny(statement):
    return ("gives", statement, NOUGHT)


MIDDLE = ("or", "a", deny("a"))
PEIRCE = ("gives", ("gives", ("gives", "a", "b"), "a"), "a")
LEAVES = [["a"], ["a", NOUGHT], ["a", "b"], ["a", "b", NOUGHT], ["a", "b", "c", NOUGHT], ["a", "b", "c", "d"]]

# True at every setting, though no statements give them.
TRUE_BUT_NOT_GIVEN = [
    MIDDLE,
    PEIRCE,
    ("gives", deny(deny("a")), "a"),
    ("or", ("gives", "a", "b"), ("gives", "b", "a")),
    ("or", ("gives", "a", "b"), ("gives", "b", "c")),
    ("or", deny("a"), deny(deny("a"))),
    ("gives", deny(("and", "a", "b")), ("or", deny("a"), deny("b"))),
    ("gives", ("gives", deny("b"), deny("a")), ("gives", "a", "b")),
    ("gives", ("gives", "a", ("or", "b", "c")), ("or", ("gives", "a", "b"), ("gives", "a", "c"))),
    ("and", MIDDLE, ("and", ("or", "b", deny("b")), ("or", "c", deny("c")))),
    ("or", ("and", "a", "b"), ("or", deny("a"), deny("b"))),
]
GIVEN = [
    TRUTH, deny(NOUGHT), ("gives", "a", "a"), ("gives", "a", ("gives", "b", "a")), deny(deny(MIDDLE)),
    ("gives", NOUGHT, "d"), ("or", "a", TRUTH), ("and", TRUTH, TRUTH), nested(NOUGHT, 9, deny),
]
NOT_TRUE = [
    NOUGHT, "a", "zebra", deny("a"), ("and", "a", deny("a")), ("or", "a", "b"), ("and", "a", "b"), ("gives", "a", "b"),
    ("or", NOUGHT, NOUGHT), deny(TRUTH), ("gives", ("or", "a", "b"), ("and", "a", "b")), deny(MIDDLE),
    ("or", "a", ("or", "b", ("or", "c", "d"))), nested(NOUGHT, 10, deny), ("gives", TRUTH, NOUGHT),
]


def settings_of(letters):
    for truths in itertools.product((True, False), repeat=len(letters)):
        yield dict(zip(letters, truths))


def plain_true(statement, setting):
    """A setting is a tree of one world."""
    return plain_holds(([letter for letter in setting if setting[letter]], []), statement)


class IsTrue(unittest.TestCase):
    def test_each_sign(self):
        for one, other in itertools.product((True, False), (True, False)):
            setting = {"a": one, "b": other}
            self.assertIs(is_true("a", setting), one)
            self.assertIs(is_true("b", setting), other)
            self.assertIs(is_true(NOUGHT, setting), False)
            self.assertIs(is_true(TRUTH, setting), True)
            self.assertIs(is_true(("and", "a", "b"), setting), one and other)
            self.assertIs(is_true(("or", "a", "b"), setting), one or other)
            self.assertIs(is_true(("gives", "a", "b"), setting), not one or other)
            self.assertIs(is_true(deny("a"), setting), not one)

    def test_sides_of_more_tuples(self):
        yes, no = ("or", "a", deny("a")), ("and", "a", deny("a"))
        worth = {yes: True, no: False, TRUTH: True, NOUGHT: False}
        for one, other in itertools.product(worth, worth):
            for setting in ({}, {"a": True}, {"a": False}):
                self.assertIs(is_true(("and", one, other), setting), worth[one] and worth[other])
                self.assertIs(is_true(("or", one, other), setting), worth[one] or worth[other])
                self.assertIs(is_true(("gives", one, other), setting), not worth[one] or worth[other])

    def test_letters_that_the_setting_does_not_have(self):
        self.assertIs(is_true("a", {}), False)
        self.assertIs(is_true("a", {"b": True}), False)
        self.assertIs(is_true(deny("a"), {}), True)
        self.assertIs(is_true(("or", "a", "b"), {"b": True}), True)
        self.assertIs(is_true(("and", "a", "b"), {"b": True}), False)
        self.assertIs(is_true(("gives", "a", "b"), {}), True)

    def test_letters_that_the_statement_does_not_have(self):
        for more in (True, False):
            self.assertIs(is_true("a", {"a": True, "b": more, "zebra": more}), True)
            self.assertIs(is_true(NOUGHT, {"a": more}), False)
            self.assertIs(is_true(TRUTH, {"a": more}), True)
            self.assertIs(is_true(deny("a"), {"b": more}), True)

    def test_many(self):
        chance = random.Random(90)
        for turn in range(150):
            statement = random_statement(chance, chance.randrange(11), chance.choice(LEAVES))
            for setting in settings_of("abcd"):
                kept = dict(setting)
                self.assertIs(is_true(statement, setting), plain_true(statement, setting))
                self.assertEqual(setting, kept)

    def test_very_deep(self):
        for setting in settings_of("a"):
            self.assertIs(is_true(nested("a", 3000, deny), setting), setting["a"])


class Twice(unittest.TestCase):
    def test_several(self):
        for statement in ("a", NOUGHT, TRUTH, ("and", "a", "b"), ("or", "a", deny("a")), ("gives", "a", "b")):
            self.assertEqual(twice(statement), ("gives", ("gives", statement, "nought"), "nought"))


class Always(unittest.TestCase):
    def check(self, statement):
        before = copy.deepcopy(statement)
        told = always(statement)
        self.assertEqual(statement, before)
        self.assertIs(type(told), tuple)
        kind, paper = told
        if kind == "always":
            denied = ("gives", ("gives", statement, "nought"), "nought")
            self.assertTrue(is_reason_form(paper))
            self.assertTrue(plain_stands([], denied, paper), (statement, paper))
            self.assertIs(stands([], denied, paper), True)
            self.assertTrue(all_lists_differ(paper))
        else:
            self.assertEqual(kind, "not")
            self.assertIs(type(paper), dict)
            self.assertEqual(set(paper), letters_of(statement))
            self.assertTrue(all(truth is True or truth is False for truth in paper.values()))
            self.assertFalse(plain_true(statement, paper))
            self.assertIs(is_true(statement, paper), False)
        return kind

    def test_true_but_not_given(self):
        for statement in TRUE_BUT_NOT_GIVEN:
            self.assertIs(gives(TRUTH, statement), False)
            self.assertEqual(self.check(statement), "always", statement)

    def test_given(self):
        for statement in GIVEN:
            self.assertEqual(self.check(statement), "always", statement)

    def test_not_true(self):
        for statement in NOT_TRUE:
            self.assertEqual(self.check(statement), "not", statement)

    def test_noughts_alone(self):
        for statement in small_statements(3, [NOUGHT]):
            if self.check(statement) == "not":
                self.assertEqual(always(statement), ("not", {}))

    def test_only_one_setting_is_not_true(self):
        letters = "abcd"
        for setting in settings_of(letters):
            parts = [deny(letter) if setting[letter] else letter for letter in letters]
            statement = ("or", ("or", parts[0], parts[1]), ("or", parts[2], parts[3]))
            self.check(statement)
            self.assertEqual(always(statement), ("not", setting))

    def test_just_where_it_is_given_denied_twice(self):
        chance = random.Random(91)
        told = {"always": 0, "not": 0}
        for turn in range(400):
            leaves = chance.choice(LEAVES)
            statement = random_statement(chance, chance.randrange(11), leaves)
            kind = self.check(statement)
            told[kind] += 1
            self.assertIs(gives(TRUTH, twice(statement)), kind == "always")
            true = all(plain_true(statement, setting) for setting in settings_of("abcd"))
            self.assertEqual(kind, "always" if true else "not")
        self.assertGreater(min(told.values()), 80)

    def test_what_was_told(self):
        for number in range(13):
            kind = "not" if number in (0, 1, 2, 4) else "always"
            self.assertEqual(self.check(rung(number, "p")), kind, number)
        chance = random.Random(92)
        for turn in range(30):
            one, other = [random_statement(chance, 10, ["a", "b", "c", NOUGHT]) for each in "ab"]
            for sign in SIGNS:
                self.check((sign, put(one, "a", other), twice(one)))

    def test_what_was_told_is_the_askers_own(self):
        for statement in NOT_TRUE:
            kind, setting = always(statement)
            kept = dict(setting)
            setting["spoiled"] = True
            for letter in kept:
                setting[letter] = None
            self.assertEqual(always(statement), (kind, kept))
        for statement in TRUE_BUT_NOT_GIVEN + GIVEN:
            first = always(statement)
            kept = copy.deepcopy(first)
            second = always(statement)
            self.assertTrue(all_lists_differ(first, second))
            spoil(first)
            self.assertEqual(second, kept)
            self.assertEqual(always(statement), kept)


if __name__ == "__main__":
    unittest.main()
