import copy
import itertools
import random
import unittest

from lesssay.errors import NoLetter, NoName, NoReason, NoRule, NoRung, NoText, SayError, TooMany
from lesssay.ladder import place, rung
from lesssay.reasons import stands
from lesssay.settling import alike, gives
from lesssay.statements import is_statement, tuples
from tests.checks import all_lists_differ, is_reason_form, letters_of, plain_stands, random_statement, spoil
from tests.samples import LETTERS, NOUGHT, ODD_THINGS, SIGNS, TRUTH, nested, small_statements


def deny(statement):
    return ("gives", statement, NOUGHT)


def plain_rung(number, letter):
    if number < 3:
        return [NOUGHT, letter, deny(letter)][number]
    half = (number - 1) // 2
    odd, even = plain_rung(2 * half - 1, letter), plain_rung(2 * half, letter)
    return ("or", odd, even) if number % 2 else ("gives", even, odd)


def rung_gives(m, n):
    return m == n or m == 0 or n >= m + 3 or (m % 2 == 1 and n == m + 2) or (m % 2 == 0 and n == m + 1)


NO_NUMBERS = [
    -1, 13, 14, 100, -10 ** 30, 10 ** 30, True, False, None, "", "1", "p", NOUGHT, [], [1], (), (1,), [[1]], ((0,),),
    ("gives", "p", NOUGHT),
]
NO_LETTERS = [
    NOUGHT, "and", "or", "gives", "abcdefghi", "P", "pQ", "", "p ", " p", "p1", "\u00e4", 0, 1, None, True, False,
    [], ["p"], (), ("p",), ("and", "p", "p"),
]

NP, NNP = deny("p"), deny(deny("p"))

# (statement of p, the number of its rung)
PLACES = [
    (NOUGHT, 0),
    ("p", 1),
    (NP, 2),
    (("or", "p", NP), 3),
    (NNP, 4),
    (("gives", NP, "p"), 4),
    (("or", NP, NNP), 5),
    (("gives", NNP, "p"), 6),
    (("or", NNP, ("gives", NNP, "p")), 7),
    (("gives", ("gives", NNP, "p"), ("or", "p", NP)), 8),
    (("and", "p", NP), 0),
    (("and", NNP, ("gives", NNP, "p")), 1),
    (nested("p", 3, deny), 2),
    (nested("p", 7, deny), 2),
    (nested("p", 8, deny), 4),
    (("or", NOUGHT, NOUGHT), 0),
    (("and", TRUTH, NOUGHT), 0),
    (deny(TRUTH), 0),
    (nested(NOUGHT, 8, deny), 0),
    (("and", "p", ("gives", NNP, "p")), 1),
    (("or", ("and", "p", "p"), NOUGHT), 1),
    (("gives", ("or", "p", NP), NOUGHT), 0),
    (("gives", ("or", "p", NP), "p"), 4),
    (("gives", ("or", NP, NNP), "p"), 1),
]
TRUTHS = [
    TRUTH,
    ("gives", "p", "p"),
    ("gives", NOUGHT, "p"),
    ("or", TRUTH, "p"),
    ("and", TRUTH, TRUTH),
    deny(NOUGHT),
    nested(NOUGHT, 7, deny),
    deny(deny(("or", "p", NP))),
    ("gives", ("gives", ("gives", "p", NOUGHT), "p"), NNP),
    ("gives", "p", ("or", ("or", "p", NP), NNP)),
]


class Case(unittest.TestCase):
    def refused(self, refusal, deed, *handed):
        with self.assertRaises(refusal) as caught:
            deed(*handed)
        self.assertIsInstance(caught.exception, SayError)
        self.assertIsInstance(caught.exception, ValueError)
        others = {NoRule, NoReason, NoLetter, NoRung, NoText, NoName, TooMany} - {refusal}
        self.assertNotIsInstance(caught.exception, tuple(others))

    def reason(self, heap, goal, reason):
        self.assertTrue(is_reason_form(reason))
        self.assertTrue(plain_stands(heap, goal, reason), (heap, goal, reason))
        self.assertIs(stands(heap, goal, reason), True)

    def check(self, statement, letter):
        """The number of the rung, or "truth"; what is told is as it must be."""
        told = place(statement, letter)
        self.assertIs(type(told), tuple)
        self.assertTrue(all_lists_differ(told))
        if told[0] == "truth":
            kind, reason = told
            self.reason([], statement, reason)
            return kind
        kind, number, there, back = told
        self.assertEqual(kind, "rung")
        self.assertIs(type(number), int)
        self.reason([statement], rung(number, letter), there)
        self.reason([rung(number, letter)], statement, back)
        self.assertIs(alike(statement, rung(number, letter)), True)
        return number


class Rungs(Case):
    def test_first_ones(self):
        self.assertEqual(rung(0, "p"), "nought")
        self.assertEqual(rung(1, "p"), "p")
        self.assertEqual(rung(2, "p"), ("gives", "p", "nought"))
        self.assertEqual(rung(3, "p"), ("or", "p", ("gives", "p", "nought")))
        self.assertEqual(rung(4, "p"), ("gives", ("gives", "p", "nought"), "p"))
        self.assertEqual(rung(5, "p"), ("or", rung(3, "p"), rung(4, "p")))
        self.assertEqual(rung(6, "p"), ("gives", rung(4, "p"), rung(3, "p")))

    def test_all_of_them(self):
        for letter in LETTERS + ["p", "letter"]:
            for number in range(13):
                told = rung(number, letter)
                self.assertEqual(told, plain_rung(number, letter))
                self.assertIs(is_statement(told), True)
                self.assertLessEqual(letters_of(told), {letter})
        self.assertEqual([tuples(rung(number, "p")) for number in (7, 8, 9, 10, 11, 12)], [11, 11, 23, 23, 47, 47])

    def test_no_number(self):
        things = NO_NUMBERS + [thing for thing in ODD_THINGS if type(thing) is not int or not 0 <= thing <= 12]
        for thing in things:
            self.refused(NoRung, rung, thing, "p")

    def test_no_letter(self):
        for thing in NO_LETTERS:
            for number in (0, 1, 2, 7, 12):
                self.refused(NoLetter, rung, number, thing)
        for thing in ODD_THINGS:
            self.refused(NoLetter, rung, 3, thing)

    def test_both_wrong(self):
        for number, letter in itertools.product(NO_NUMBERS, NO_LETTERS):
            self.refused(NoRung, rung, number, letter)

    def test_which_gives_which(self):
        told = {True: 0, False: 0}
        for m, n in itertools.product(range(13), range(13)):
            self.assertIs(gives(rung(m, "p"), rung(n, "p")), rung_gives(m, n), (m, n))
            told[rung_gives(m, n)] += 1
        self.assertGreater(min(told.values()), 70)

    def test_none_is_alike_with_another_or_with_truth(self):
        for m, n in itertools.combinations(range(13), 2):
            self.assertIs(alike(rung(m, "q"), rung(n, "q")), False, (m, n))
        for m in range(13):
            self.assertIs(alike(rung(m, "q"), TRUTH), False, m)
            self.assertIs(alike(rung(m, "q"), rung(m, "q")), True, m)


class Places(Case):
    def test_known_ones(self):
        for statement, number in PLACES:
            self.assertEqual(self.check(statement, "p"), number, statement)

    def test_truth(self):
        for statement in TRUTHS:
            self.assertEqual(self.check(statement, "p"), "truth", statement)

    def test_rungs_have_their_own_numbers(self):
        for number in range(13):
            if tuples(rung(number, "zebra")) <= 8:
                self.assertEqual(self.check(rung(number, "zebra"), "zebra"), number)

    def test_noughts_alone(self):
        for statement in small_statements(3, [NOUGHT]):
            told = self.check(statement, "p")
            self.assertIn(told, (0, "truth"))
            self.assertEqual(told == "truth", alike(statement, TRUTH))

    def test_all_small_ones(self):
        for statement in small_statements(2, ["p", NOUGHT]):
            self.check(statement, "p")

    def test_none_to_eight_tuples(self):
        chance = random.Random(80)
        numbers = set()
        for size in range(9):
            for turn in range(60):
                signs = chance.choice([SIGNS, ("gives", "gives", "or")])
                leaves = chance.choice([["p"], ["p", NOUGHT]])
                numbers.add(self.check(random_statement(chance, size, leaves, signs), "p"))
        self.assertGreaterEqual(len(numbers), 6)

    def test_put_together_of_rungs(self):
        chance = random.Random(81)
        for turn in range(60):
            one, other = [PLACES[chance.randrange(8)] for each in "ab"]
            for sign in SIGNS:
                made = (sign, one[0], other[0])
                if tuples(made) <= 8:
                    self.check(made, "p")
            self.assertIs(gives(one[0], other[0]), rung_gives(one[1], other[1]))

    def test_no_letter(self):
        for thing in NO_LETTERS + ODD_THINGS:
            self.refused(NoLetter, place, "p", thing)
            self.refused(NoLetter, place, NOUGHT, thing)

    def test_another_letter(self):
        for statement in ("q", ("and", "p", "q"), ("or", "q", NOUGHT), ("gives", "q", "q"), ("and", "pp", "p")):
            self.refused(NoLetter, place, statement, "p")

    def test_too_many(self):
        for size in (9, 10, 12, 30):
            for part in ("p", NOUGHT):
                self.refused(TooMany, place, nested(part, size, deny), "p")
        self.refused(TooMany, place, rung(7, "p"), "p")
        self.refused(TooMany, place, rung(12, "p"), "p")

    def test_both_due(self):
        for size in (9, 12):
            self.refused(NoLetter, place, nested("q", size, deny), "p")
            for thing in NO_LETTERS:
                self.refused(NoLetter, place, nested("p", size, deny), thing)

    def test_eight_are_not_refused(self):
        for part in ("p", NOUGHT):
            for step in (deny, lambda each: ("and", each, "p"), lambda each: ("or", NOUGHT, each)):
                self.check(nested(part, 8, step), "p")


class Keeping(Case):
    def test_what_was_told_is_the_askers_own(self):
        for statement in [statement for statement, number in PLACES] + TRUTHS:
            before = copy.deepcopy(statement)
            first = place(statement, "p")
            self.assertEqual(statement, before)
            kept = copy.deepcopy(first)
            second = place(statement, "p")
            self.assertTrue(all_lists_differ(first, second))
            spoil(first)
            self.assertEqual(second, kept)
            self.assertEqual(place(statement, "p"), kept)


if __name__ == "__main__":
    unittest.main()
