import random
import unittest

from lesssay.errors import NoLetter, NoName, NoReason, NoRule, NoRung, NoText, SayError, TooMany
from lesssay.ladder import rung
from lesssay.texts import read, show
from tests.checks import random_statement
from tests.samples import LETTERS, NOUGHT, ODD_THINGS, SIGNS, TRUTH, nested, small_statements

SHOWN = [
    ("a", "a"),
    ("abcdefgh", "abcdefgh"),
    (NOUGHT, "nought"),
    (("and", "a", "b"), "(a and b)"),
    (("or", "a", "b"), "(a or b)"),
    (("gives", "a", "b"), "(a gives b)"),
    (TRUTH, "(nought gives nought)"),
    (("gives", ("gives", "p", NOUGHT), NOUGHT), "((p gives nought) gives nought)"),
    (("and", ("or", "a", "b"), ("gives", "c", "d")), "((a or b) and (c gives d))"),
    (("or", "a", ("and", "b", ("or", "a", "andy"))), "(a or (b and (a or andy)))"),
    (("gives", "orb", "givesx"), "(orb gives givesx)"),
]

# Not written as statements are.
NOT_SO = [
    "", " ", "  ", "\n", "a ", " a", "a b", "a and b", "a\n", "\ta", "(a)", "((a))", "(a", "a)", "()", "( )", "(", ")",
    "(nought)", "(a and b) ", " (a and b)", "( a and b)", "(a and b )", "(a  and b)", "(a and  b)", "(a and b))",
    "((a and b)", "((a and b))", "(a and b", "a and b)", "(aand b)", "(a andb)", "(aandb)", "(a and)", "(and b)",
    "(a and )", "( and b)", "(a b)", "(a, b)", "(a and b and c)", "(a and b)(c and d)", "(a and b) and c",
    "(a and b)c", "c(a and b)", "(a not b)", "(a AND b)", "(a And b)", "(a & b)", "(a xor b)", "(a ands b)",
    "(a nought b)", "(a give b)", "A", "aB", "(A and b)", "(a and B)", "Nought", "NOUGHT", "a1", "1", "(a and 1)",
    "(a1 and b)", "0", "abcdefghi", "(abcdefghi and b)", "(a and abcdefghi)", "noughtnou", "and", "or", "gives",
    "(and and b)", "(a or or)", "(gives gives gives)", "(a and and)", "(or or b)", "a-b", "a_b", "a.", "[a and b]",
    "{a or b}", "(a and (b or c)", "(a and b or c)", "((a and b) or)", "((a and b)or c)", "(c or(a and b))",
    "(a\tand b)", "(a and\tb)", "(a and b)\n", "(a and\nb)", "a;", "a:", "\u00e4", "(a and \u00e4)", "~", "(~ and a)",
    "(a and (b))", "((a) and b)", "(a or b)or", "nought nought", "(nought gives nought",
]


class Case(unittest.TestCase):
    def refused(self, thing):
        with self.assertRaises(NoText) as caught:
            read(thing)
        self.assertIsInstance(caught.exception, SayError)
        self.assertIsInstance(caught.exception, ValueError)
        self.assertNotIsInstance(caught.exception, (NoRule, NoReason, NoLetter, NoRung, NoName, TooMany))


class Show(Case):
    def test_each_kind(self):
        for statement, text in SHOWN:
            self.assertEqual(show(statement), text)

    def test_large_ones(self):
        self.assertEqual(show(nested("a", 3, lambda part: ("or", part, "b"))), "(((a or b) or b) or b)")
        text = show(nested("a", 2000, lambda part: ("or", part, "b")))
        self.assertEqual(text, "(" * 2000 + "a" + " or b)" * 2000)
        self.assertEqual(show(rung(12, "p")).count("("), 47)


class Read(Case):
    def test_each_kind(self):
        for statement, text in SHOWN:
            self.assertEqual(read(text), statement)

    def test_letters(self):
        for letter in LETTERS:
            self.assertEqual(read(letter), letter)
            self.assertEqual(read(f"({letter} gives {letter})"), ("gives", letter, letter))

    def test_what_was_shown(self):
        for statement in small_statements(2, ["a", "noughty", NOUGHT]):
            self.assertEqual(read(show(statement)), statement)
        chance = random.Random(100)
        for turn in range(300):
            statement = random_statement(chance, chance.randrange(11), LETTERS + [NOUGHT])
            self.assertEqual(read(show(statement)), statement)

    def test_ten_tuples(self):
        for step in (lambda part: ("and", part, "b"), lambda part: ("gives", "b", part)):
            ten = nested("a", 10, step)
            self.assertEqual(read(show(ten)), ten)

    def test_more_than_ten_tuples(self):
        chance = random.Random(101)
        for size in (11, 12, 13, 20, 30):
            self.refused(show(nested("a", size, lambda part: ("and", part, "b"))))
            self.refused(show(nested("a", size, lambda part: ("gives", "b", part))))
            for turn in range(10):
                self.refused(show(random_statement(chance, size, ["a", "b", NOUGHT])))

    def test_not_written_so(self):
        for text in NOT_SO:
            self.refused(text)

    def test_a_text_spoiled(self):
        # Whatever is taken out of a text or put into it: it is refused, or it is what the outcome is written for.
        for statement, text in SHOWN:
            for at in range(len(text) + 1):
                for spoiled in [text[:at] + text[at + 1:]] + [text[:at] + sign + text[at:] for sign in " ()aB1~"]:
                    try:
                        told = read(spoiled)
                    except NoText:
                        continue
                    self.assertEqual(show(told), spoiled)

    def test_only_a_part(self):
        for statement, text in SHOWN:
            if text.startswith("("):
                for at in range(len(text)):
                    self.refused(text[:at])

    def test_no_text(self):
        for thing in (None, 0, 1, -1, True, False, [], ["a"], (), ("a",), ("and", "a", "b"), [["a"]], 10 ** 30):
            self.refused(thing)
        for thing in ODD_THINGS:
            if type(thing) is not str:
                self.refused(thing)

    def test_eight_hundred_signs(self):
        for text in ("(" * 800, ")" * 800, " " * 800, "a" * 800, "~" * 800, "(a and " * 114, "nought" * 133):
            self.refused(text)
        self.refused("(" * 700 + "a" + " or b)" * 16)
        self.refused("(a or b)" * 100)
        self.refused(("(abcdefgh gives " * 50)[:800])
        ten = nested("abcdefgh", 10, lambda part: ("gives", "abcdefgh", part))
        self.refused(show(ten) + " " * (800 - len(show(ten))))

    def test_signs_as_letters(self):
        for sign in SIGNS:
            self.refused(sign)
            self.refused(f"({sign} and a)")
            self.refused(f"(a and {sign})")


if __name__ == "__main__":
    unittest.main()
