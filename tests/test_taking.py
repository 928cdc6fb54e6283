import copy
import itertools
import random
import re
import unittest

from lesssay.errors import NoLetter, NoName, NoReason, NoRule, NoRung, NoText, SayError, TooMany
from lesssay.reasons import stands
from lesssay.settling import alike, gives
from lesssay.statements import is_statement, put, tuples
from lesssay.taking import left, needed, papers
from tests.checks import (
    all_lists_differ, is_reason_form, is_short, letters_of, plain_stands, random_statement, spoil,
)
from tests.samples import NOUGHT, ODD_THINGS, SIGNS, TRUTH, nested, small_statements

DEEDS = (left, needed, papers)


def deny(statement):
    return ("gives", statement, NOUGHT)


def both_ways(one, other):
    return ("and", ("gives", one, other), ("gives", other, one))


PQ = ("gives", "p", "q")
CHAIN = ("gives", ("and", ("gives", "q", "r"), ("gives", "r", "p")), "p")
CURRIED = ("gives", ("gives", "q", "r"), "r")

# (statement, letters taken out, what is left, what is needed): by what each is alike with.
KNOWN = [
    ("p", ["p"], TRUTH, NOUGHT),
    ("q", ["p"], "q", "q"),
    (NOUGHT, ["p"], NOUGHT, NOUGHT),
    (TRUTH, ["p"], TRUTH, TRUTH),
    (("and", "p", "q"), ["p"], "q", NOUGHT),
    (("or", "p", "q"), ["p"], TRUTH, "q"),
    (PQ, ["p"], TRUTH, "q"),
    (PQ, ["q"], TRUTH, deny("p")),
    (PQ, ["p", "q"], TRUTH, NOUGHT),
    (deny("p"), ["p"], TRUTH, NOUGHT),
    (("or", "p", deny("p")), ["p"], TRUTH, NOUGHT),
    (("and", "p", deny("p")), ["p"], NOUGHT, NOUGHT),
    (deny(deny(("or", "p", deny("p")))), ["p"], TRUTH, TRUTH),
    (("and", ("gives", "q", "p"), ("gives", "p", "r")), ["p"], ("gives", "q", "r"), ("and", deny("q"), "r")),
    (("gives", PQ, "r"), ["p"], ("gives", "q", "r"), "r"),
    (("gives", PQ, "r"), ["q"], ("gives", deny("p"), "r"), "r"),
    (("gives", PQ, "p"), ["q"], deny(deny("p")), "p"),
    (("gives", PQ, "p"), ["p"], TRUTH, NOUGHT),
    (("and", PQ, ("gives", deny("p"), "q")), ["p"], deny(deny("q")), "q"),
    (("and", ("gives", "p", "r"), ("and", ("gives", "q", "r"), ("or", "p", "q"))), ["p"], "r", ("and", "r", "q")),
    (("or", ("and", "p", "q"), ("and", deny("p"), "r")), ["p"], ("or", "q", "r"), NOUGHT),
    (("and", ("or", "p", "q"), ("or", deny("p"), "r")), ["p"], ("or", "q", "r"), ("and", "q", "r")),
    (("gives", both_ways("p", "q"), "r"), ["p"], TRUTH, "r"),
    (both_ways("p", "q"), ["p"], TRUTH, NOUGHT),
    (("gives", "q", ("or", "p", "r")), ["p"], TRUTH, ("gives", "q", "r")),
    (("gives", ("and", "p", "q"), "r"), ["p"], TRUTH, ("gives", "q", "r")),
    (("and", ("gives", "p", "q"), deny(deny("p"))), ["p"], deny(deny("q")), NOUGHT),
    (("and", deny("p"), ("gives", "q", "p")), ["p"], deny("q"), NOUGHT),
    (("or", "q", ("gives", "q", "p")), ["p"], TRUTH, ("or", "q", deny("q"))),
    (("and", ("or", "p", "q"), ("gives", "p", ("and", "r", "q"))), ["p", "r"], "q", NOUGHT),
    (CHAIN, ["p"], TRUTH, CURRIED),
    (("gives", ("gives", "q", "r"), ("gives", ("gives", "r", "p"), "p")), ["p"], TRUTH, CURRIED),
    (("gives", ("and", deny(deny("q")), ("gives", "q", "p")), "p"), ["p"], TRUTH, ("gives", deny(deny("q")), "q")),
    (("gives", ("and", ("or", "q", "r"), ("gives", "q", "p")), "p"), ["p"], TRUTH, ("gives", "r", "q")),
]

OTHERS = {
    (): small_statements(1, ["p", "q", NOUGHT]),
    ("p",): small_statements(2, ["q", NOUGHT]),
    ("q",): small_statements(2, ["p", NOUGHT]),
    ("p", "q"): [NOUGHT, TRUTH, "r", deny("r")],
}

GONE = [
    [], ["p"], ["q"], ["r"], ["p", "q"], ["q", "p"], ["p", "r"], ["p", "q", "r"], ["r", "q", "p"], ["s"], ["p", "p"],
    ["q", "p", "q"], ["s", "p"], ["zebra", "p", "zebra"],
]
LEAVES = [["p"], ["p", NOUGHT], ["p", "q"], ["p", "q", NOUGHT], ["p", "q", "r"], ["p", "q", "r", NOUGHT]]
LEAVES += [["p", "p", "q", "r"], ["p", "p", "q", "q", NOUGHT]]


def statements(seed, many):
    """Statements of none to five tuples over one to three letters, all signs."""
    chance = random.Random(seed)
    for turn in range(many):
        size = chance.choice([0, 1, 2, 3, 4, 4, 5, 5, 5, 5])
        signs = chance.choice([SIGNS, ("gives",), ("gives", "or"), ("gives", "gives", "and", "or")])
        yield random_statement(chance, size, chance.choice(LEAVES), signs)


def without(seed, many, gone):
    """Statements in which no letter stands that is gone."""
    chance = random.Random(seed)
    leaves = [letter for letter in "pqr" if letter not in gone] + [NOUGHT]
    return [random_statement(chance, chance.randrange(6), leaves) for turn in range(many)]


class Case(unittest.TestCase):
    def form(self, statement, gone, told):
        """None of the letters taken out, no new one, short."""
        self.assertIs(is_statement(told), True)
        self.assertLessEqual(letters_of(told), letters_of(statement) - set(gone), (statement, gone, told))
        self.assertTrue(is_short(told), (statement, gone, told))

    def both(self, statement, gone):
        most, least = left(statement, gone), needed(statement, gone)
        self.form(statement, gone, most)
        self.form(statement, gone, least)
        self.assertIs(gives(statement, most), True, (statement, gone, most))
        self.assertIs(gives(least, statement), True, (statement, gone, least))
        return most, least

    def bounds(self, statement, most, least, others):
        """Each of the others is given, and gives, just where it is by the statement itself."""
        for other in others:
            self.assertIs(gives(most, other), gives(statement, other), (statement, most, other))
            self.assertIs(gives(other, least), gives(other, statement), (statement, least, other))


class LeftAndNeeded(Case):
    def test_known_ones(self):
        for statement, gone, most, least in KNOWN:
            told = self.both(statement, gone)
            self.assertIs(alike(told[0], most), True, (statement, gone, told))
            self.assertIs(alike(told[1], least), True, (statement, gone, told))

    def test_all_small_ones(self):
        small = small_statements(2, ["p", "q", NOUGHT])
        for at, statement in enumerate(small):
            for gone, others in OTHERS.items():
                most, least = self.both(statement, list(gone))
                self.bounds(statement, most, least, others[at % 5::5])

    def test_many_ones(self):
        for turn, statement in enumerate(statements(50, 250)):
            for gone in (["p"], GONE[turn % len(GONE)]):
                most, least = self.both(statement, gone)
                self.bounds(statement, most, least, without(turn, 15, gone))

    def test_letters_put_for_the_one_taken_out(self):
        # Whatever is put for the letter, what is left is given, and what is needed gives.
        chance = random.Random(51)
        for statement in statements(52, 150):
            most, least = self.both(statement, ["p"])
            for turn in range(4):
                other = put(statement, "p", random_statement(chance, 3, ["q", "r", NOUGHT]))
                self.assertIs(gives(other, most), True)
                self.assertIs(gives(least, other), True)

    def test_no_letters(self):
        for gone in ([], ["s"], ["zebra", "s", "s"]):
            for statement in statements(53, 60):
                most, least = self.both(statement, gone)
                self.assertIs(alike(most, statement), True)
                self.assertIs(alike(least, statement), True)

    def test_all_letters(self):
        for statement in statements(54, 100):
            most, least = self.both(statement, ["p", "q", "r"])
            self.assertEqual(most, NOUGHT if gives(statement, NOUGHT) else TRUTH)
            self.assertEqual(least, TRUTH if gives(TRUTH, statement) else NOUGHT)

    def test_any_order_and_doubled(self):
        for statement in statements(55, 60):
            for gone in (["p", "q"], ["p", "r"], ["p", "q", "r"]):
                most, least = self.both(statement, gone)
                for order in itertools.permutations(gone + gone[:1] + ["s"]):
                    self.assertIs(alike(left(statement, list(order)), most), True)
                    self.assertIs(alike(needed(statement, list(order)), least), True)

    def test_one_after_another(self):
        done = 0
        for statement in statements(56, 200):
            for one, other in (("p", "q"), ("q", "p"), ("r", "p"), ("p", "r")):
                for deed in (left, needed):
                    told = deed(statement, [one])
                    if tuples(told) <= 5:
                        done += 1
                        at_once = deed(statement, [one, other])
                        self.assertIs(alike(deed(told, [other]), at_once), True, (deed, statement, one, other))
        self.assertGreater(done, 1500)

    def test_long_letters(self):
        statement = ("and", ("gives", "andy", "abcdefgh"), ("gives", "abcdefgh", "orb"))
        self.assertIs(alike(left(statement, ["abcdefgh"]), ("gives", "andy", "orb")), True)
        self.assertEqual(needed(("or", "letter", "truth"), ["letter"]), "truth")

    def test_what_was_told_of_the_other(self):
        # What is left of a denial is the denial of what is needed, and the like.
        for statement in statements(57, 150):
            if tuples(statement) <= 3:
                most, least = self.both(statement, ["p"])
                self.assertIs(alike(needed(deny(statement), ["p"]), deny(most)), True)
                self.assertIs(alike(left(("and", "q", statement), ["p"]), ("and", "q", most)), True)
                self.assertIs(alike(needed(("gives", "q", statement), ["p"]), ("gives", "q", least)), True)

    def test_a_statement_gives_and_is_given(self):
        done = 0
        pairs = list(statements(58, 120))
        for one, other in itertools.product(pairs, pairs[:30]):
            if gives(one, other):
                self.assertIs(gives(left(one, ["p"]), left(other, ["p"])), True)
                self.assertIs(gives(needed(one, ["p"]), needed(other, ["p"])), True)
                done += 1
        self.assertGreater(done, 100)

    def test_not_needlessly_large(self):
        # Put together by steps these become some thirty tuples and more.
        either = ("or", "q", ("gives", "q", "p"))
        large = [
            (left, ("gives", ("gives", "r", either), "r")),
            (left, ("gives", ("gives", ("or", "p", "r"), either), "r")),
            (left, ("gives", ("and", either, ("gives", "r", "q")), "r")),
            (needed, ("gives", deny(("gives", "p", ("and", "q", "r"))), ("or", "q", "r"))),
            (left, ("gives", ("gives", "r", ("or", deny("q"), ("gives", "p", "q"))), "r")),
        ]
        for deed, statement in large:
            self.assertLessEqual(tuples(deed(statement, ["p"])), 6, statement)
        for statement in statements(59, 200):
            for told in self.both(statement, ["p"]):
                self.assertLessEqual(tuples(told), 10)


class Papers(Case):
    def check(self, statement, gone):
        told = papers(statement, gone)
        self.assertIs(type(told), tuple)
        most, there, least, back = told
        self.form(statement, gone, most)
        self.form(statement, gone, least)
        for heap, goal, reason in (([statement], most, there), ([least], statement, back)):
            self.assertTrue(is_reason_form(reason))
            self.assertTrue(plain_stands(heap, goal, reason), (heap, goal, reason))
            self.assertIs(stands(heap, goal, reason), True)
        self.assertTrue(all_lists_differ(told))
        return most, least

    def test_known_ones(self):
        for statement, gone, most, least in KNOWN:
            told = self.check(statement, gone)
            self.assertIs(alike(told[0], most), True)
            self.assertIs(alike(told[1], least), True)

    def test_many_ones(self):
        for turn, statement in enumerate(statements(60, 150)):
            gone = GONE[turn % len(GONE)]
            most, least = self.check(statement, gone)
            self.bounds(statement, most, least, without(turn, 8, gone))
            self.assertIs(alike(most, left(statement, gone)), True)
            self.assertIs(alike(least, needed(statement, gone)), True)


def is_list_of_letters(thing):
    return type(thing) is list and all(
        type(each) is str and re.fullmatch("[a-z]{1,8}", each) and each not in SIGNS + (NOUGHT,) for each in thing
    )


NO_LETTERS = [
    "p", "", "pq", ("p",), (), None, 0, 1, -3, True, False, ("and", "p", "q"), ("gives", "p", "q"), NOUGHT,
    [NOUGHT], ["and"], ["or"], ["gives"], ["abcdefghi"], ["P"], ["pQ"], [""], [1], [0], [True], [None], [("p",)], [()],
    [["p"]], [[]], ["p", NOUGHT], [NOUGHT, "p"], ["p", "q", "P"], ["p", 7], [("and", "p", "q")], ["p", ["q"]],
    ["p "], [" p"], ["p q"], ["p1"], ["p\n"], ["\u00e4"],
]
SIX = [
    nested("p", 6, lambda part: ("and", part, "q")),
    nested("p", 6, lambda part: ("gives", "q", part)),
    ("or", nested("p", 3, deny), nested("q", 2, deny)),
    nested("p", 7, deny),
    nested(NOUGHT, 10, deny),
    nested("p", 30, lambda part: ("or", part, part) if isinstance(part, str) else ("or", "q", part)),
]
FOUR_LETTERS = [
    ("and", ("or", "p", "q"), ("or", "r", "s")),
    ("gives", "a", ("gives", "b", ("gives", "c", "d"))),
    ("or", ("or", ("or", ("or", ("or", "a", "b"), "c"), "d"), "e"), NOUGHT),
]


class Refused(Case):
    def refused(self, refusal, deed, *handed):
        with self.assertRaises(refusal) as caught:
            deed(*handed)
        self.assertIsInstance(caught.exception, SayError)
        self.assertIsInstance(caught.exception, ValueError)
        others = {NoRule, NoReason, NoLetter, NoRung, NoText, NoName, TooMany} - {refusal}
        self.assertNotIsInstance(caught.exception, tuple(others))

    def test_no_list_of_letters(self):
        for thing in NO_LETTERS + [thing for thing in ODD_THINGS if not is_list_of_letters(thing)]:
            for deed in DEEDS:
                self.refused(NoLetter, deed, ("and", "p", "q"), thing)

    def test_lists_that_are_not_refused(self):
        for thing in [thing for thing in ODD_THINGS if is_list_of_letters(thing)] + [["p"] * 1999]:
            for deed in DEEDS:
                deed(("and", "p", "a"), thing)

    def test_too_many(self):
        for statement in SIX + FOUR_LETTERS:
            for gone in ([], ["p"], ["p", "q"], ["z"]):
                for deed in DEEDS:
                    self.refused(TooMany, deed, statement, gone)

    def test_both_due(self):
        for statement in SIX + FOUR_LETTERS:
            for thing in NO_LETTERS:
                for deed in DEEDS:
                    self.refused(NoLetter, deed, statement, thing)

    def test_at_the_bounds(self):
        five = [
            ("and", ("or", "p", "q"), ("gives", ("or", "r", "p"), ("and", "q", "r"))),
            nested("p", 5, deny),
            ("or", "p", ("or", "q", ("or", "r", ("or", "p", ("or", "q", "r"))))),
            ("gives", ("gives", ("gives", ("gives", ("gives", "p", "q"), "r"), "p"), "q"), "r"),
            nested(NOUGHT, 5, deny),
        ]
        for statement in five:
            self.assertEqual(tuples(statement), 5)
            for gone in GONE:
                self.both(statement, gone)
                self.assertEqual(len(papers(statement, gone)), 4)


class Keeping(Case):
    def test_nothing_handed_in_is_changed(self):
        for turn, statement in enumerate(statements(61, 60)):
            gone = list(GONE[turn % len(GONE)])
            for deed in DEEDS:
                before = copy.deepcopy((statement, gone))
                deed(statement, gone)
                self.assertEqual((statement, gone), before)

    def test_what_was_told_is_the_askers_own(self):
        for turn, statement in enumerate(statements(62, 60)):
            gone = GONE[turn % len(GONE)]
            first = papers(statement, gone)
            kept = copy.deepcopy(first)
            second = papers(statement, gone)
            self.assertTrue(all_lists_differ(first, second))
            spoil(first)
            self.assertEqual(second, kept)
            self.assertEqual(papers(statement, gone), kept)

    def test_what_was_handed_in_may_be_changed(self):
        for statement in statements(63, 40):
            gone = ["p"]
            first = papers(statement, gone), left(statement, gone), needed(statement, gone)
            kept = copy.deepcopy(first)
            gone[:] = ["q", NOUGHT]
            self.assertEqual(first, kept)
            self.assertEqual((papers(statement, ["p"]), left(statement, ["p"]), needed(statement, ["p"])), kept)

    def test_what_was_told_again(self):
        for statement in statements(64, 80):
            most, there, least, back = papers(statement, ["p"])
            for sign in SIGNS:
                made = (sign, most, least)
                self.assertIs(gives(made, made), True)
            self.assertIs(gives(("and", most, least), statement), True)
            self.assertIs(alike(left(most, ["p"]) if tuples(most) <= 5 else most, most), True)


if __name__ == "__main__":
    unittest.main()
