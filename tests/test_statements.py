import unittest

from lesssay.statements import is_statement, letters, put, tuples
from tests.samples import LETTERS, NO_LEAVES, NOUGHT, ODD_THINGS, SIGNS, TRUTH, nested, small_statements


class IsStatement(unittest.TestCase):
    def test_letters_and_nought(self):
        for leaf in LETTERS + [NOUGHT]:
            self.assertIs(is_statement(leaf), True, leaf)

    def test_each_small_letter(self):
        for small in "abcdefghijklmnopqrstuvwxyz":
            self.assertIs(is_statement(small), True, small)
            self.assertIs(is_statement(small * 8), True, small)
            self.assertIs(is_statement(small * 9), False, small)

    def test_only_small_letters(self):
        for code in range(0, 400):
            expected = 97 <= code <= 122
            self.assertIs(is_statement(chr(code)), expected, code)
            self.assertIs(is_statement("a" + chr(code)), expected, code)
            self.assertIs(is_statement(chr(code) + "a"), expected, code)

    def test_tuples_of_statements(self):
        for statement in small_statements(2, ["a", NOUGHT]):
            self.assertIs(is_statement(statement), True, statement)
        self.assertIs(is_statement(TRUTH), True)
        for leaf in LETTERS:
            for sign in SIGNS:
                self.assertIs(is_statement((sign, leaf, ("or", NOUGHT, leaf))), True, leaf)

    def test_odd_things(self):
        for thing in ODD_THINGS:
            self.assertIs(is_statement(thing), False, repr(thing)[:80])

    def test_odd_things_at_each_side(self):
        for thing in NO_LEAVES:
            for sign in SIGNS:
                self.assertIs(is_statement((sign, thing, "a")), False, thing)
                self.assertIs(is_statement((sign, "a", thing)), False, thing)
                self.assertIs(is_statement((sign, "a", ("or", thing, "b"))), False, thing)
                self.assertIs(is_statement((sign, ("or", "b", thing), "a")), False, thing)

    def test_odd_things_as_sign(self):
        for thing in NO_LEAVES + LETTERS + [NOUGHT]:
            if thing not in SIGNS:
                self.assertIs(is_statement((thing, "a", "b")), False, thing)
                self.assertIs(is_statement(("and", "a", (thing, "a", "b"))), False, thing)

    def test_lists_in_place_of_tuples(self):
        self.assertIs(is_statement(["and", "a", "b"]), False)
        self.assertIs(is_statement(("and", ["and", "a", "b"], "b")), False)
        self.assertIs(is_statement(("and", "b", ["and", "a", "b"])), False)

    def test_as_deep_and_as_many_as_any_thing(self):
        self.assertIs(is_statement(nested("a", 59, lambda part: ("gives", part, "b"))), True)
        self.assertIs(is_statement(nested("a", 59, lambda part: ("gives", "b", part))), True)
        wide = nested("a", 8, lambda part: ("and", part, part))
        self.assertIs(is_statement(wide), True)
        self.assertIs(is_statement(("or", wide, ("and", wide, 1))), False)


class Tuples(unittest.TestCase):
    def test_none(self):
        for leaf in LETTERS + [NOUGHT]:
            self.assertEqual(tuples(leaf), 0, leaf)

    def test_each_sign_counts_one(self):
        for sign in SIGNS:
            self.assertEqual(tuples((sign, "a", "b")), 1)
            self.assertEqual(tuples((sign, ("and", "a", "b"), ("or", "a", NOUGHT))), 3)
            self.assertEqual(tuples((sign, "a", ("gives", "b", ("or", "a", "b")))), 3)

    def test_as_often_as_they_stand_there(self):
        pair = ("and", "a", "b")
        self.assertEqual(tuples(("or", pair, pair)), 3)
        self.assertEqual(tuples(("or", ("or", pair, pair), pair)), 5)

    def test_letters_like_words_count_nothing(self):
        self.assertEqual(tuples(("and", "andy", ("or", "orb", "givesx"))), 2)


class Letters(unittest.TestCase):
    def test_of_leaves(self):
        self.assertEqual(letters(NOUGHT), [])
        self.assertEqual(letters("b"), ["b"])
        self.assertEqual(letters("noughty"), ["noughty"])

    def test_order_of_texts_each_once(self):
        statement = ("and", ("gives", "b", "a"), ("or", ("and", "ab", "b"), ("gives", "aa", "a")))
        self.assertEqual(letters(statement), ["a", "aa", "ab", "b"])
        self.assertEqual(letters(("or", "z", ("or", "b", "zz"))), ["b", "z", "zz"])

    def test_without_nought_and_signs(self):
        self.assertEqual(letters(TRUTH), [])
        self.assertEqual(letters(("and", NOUGHT, ("gives", "c", NOUGHT))), ["c"])
        self.assertEqual(letters(("and", "orb", ("or", "andy", "givesx"))), ["andy", "givesx", "orb"])

    def test_a_new_list_each_time(self):
        statement = ("and", "b", "a")
        told = letters(statement)
        told.append("c")
        told[0] = "z"
        self.assertEqual(letters(statement), ["a", "b"])


class Put(unittest.TestCase):
    def test_at_the_letter_itself(self):
        self.assertEqual(put("a", "a", ("and", "b", "c")), ("and", "b", "c"))
        self.assertEqual(put("b", "a", ("and", "b", "c")), "b")
        self.assertEqual(put(NOUGHT, "a", "b"), NOUGHT)

    def test_at_each_place(self):
        statement = ("and", ("gives", "a", "b"), ("or", "a", ("and", "a", NOUGHT)))
        other = ("gives", "c", NOUGHT)
        expected = ("and", ("gives", other, "b"), ("or", other, ("and", other, NOUGHT)))
        self.assertEqual(put(statement, "a", other), expected)

    def test_sides_keep_their_places(self):
        for sign in SIGNS:
            self.assertEqual(put((sign, "a", "b"), "a", "c"), (sign, "c", "b"))
            self.assertEqual(put((sign, "a", "b"), "b", "c"), (sign, "a", "c"))

    def test_nowhere_else(self):
        statement = ("and", "aa", ("or", "ab", "ba"))
        self.assertEqual(put(statement, "a", "c"), statement)
        self.assertEqual(put(("and", "an", "andy"), "an", "c"), ("and", "c", "andy"))

    def test_what_is_put_is_not_searched_again(self):
        self.assertEqual(put(("or", "a", "b"), "a", ("and", "a", "b")), ("or", ("and", "a", "b"), "b"))
        self.assertEqual(put("a", "a", ("gives", "a", "a")), ("gives", "a", "a"))

    def test_against_all_small_statements(self):
        def replaced(statement, letter, other):
            if isinstance(statement, tuple):
                sign, one, two = statement
                return sign, replaced(one, letter, other), replaced(two, letter, other)
            return other if statement == letter else statement

        for statement in small_statements(2, ["a", "b", NOUGHT]):
            told = put(statement, "a", ("or", "a", "c"))
            self.assertEqual(told, replaced(statement, "a", ("or", "a", "c")))

    def test_more_tuples_than_may_be_handed_in(self):
        ten = nested("a", 10, lambda part: ("and", part, "a"))
        self.assertEqual(tuples(put(ten, "a", ten)), 10 + 11 * 10)


class WhatWasToldMayBeHandedInAgain(unittest.TestCase):
    def test_very_deep(self):
        step = nested("a", 10, lambda part: ("gives", part, NOUGHT))
        deep = "a"
        for turn in range(300):
            deep = put(deep, "a", step)
        self.assertIs(is_statement(deep), True)
        self.assertEqual(tuples(deep), 3000)
        self.assertEqual(letters(deep), ["a"])
        self.assertEqual(tuples(put(deep, "a", ("or", "b", "c"))), 3001)
        self.assertEqual(letters(put(deep, "a", ("or", "c", "b"))), ["b", "c"])


if __name__ == "__main__":
    unittest.main()
