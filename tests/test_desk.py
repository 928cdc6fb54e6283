import copy
import random
import unittest

from lesssay.desk import Desk
from lesssay.errors import NoLetter, NoName, NoReason, NoRule, NoRung, NoText, SayError, TooMany
from lesssay.ladder import place, rung
from lesssay.settling import alike, gives, settled
from lesssay.statements import letters, tuples
from lesssay.taking import left, needed
from lesssay.texts import read, show
from tests.checks import is_short, letters_of, random_statement
from tests.samples import NOUGHT, ODD_THINGS, SIGNS, TRUTH, nested

TRUTH_TEXT = "(nought gives nought)"


def deny(statement):
    return ("gives", statement, NOUGHT)


def chain(many):
    """A text with so many tuples and one letter."""
    return show(nested("a", many, lambda part: ("and", part, "a")))


class Case(unittest.TestCase):
    def desk(self, *rows):
        """A desk that was told these rows, each answered with ok."""
        desk = Desk()
        for row in rows:
            self.assertEqual(desk.say(row), "ok", row)
        return desk

    def refused(self, desk, refusal, row):
        """The row is refused, and the book is as it was."""
        before = desk.say("book")
        kept = copy.deepcopy(row)
        with self.assertRaises(refusal) as caught:
            desk.say(row)
        self.assertIsInstance(caught.exception, SayError)
        self.assertIsInstance(caught.exception, ValueError)
        others = {NoRule, NoReason, NoLetter, NoRung, NoText, NoName, TooMany} - {refusal}
        self.assertNotIsInstance(caught.exception, tuple(others), row)
        self.assertEqual(desk.say("book"), before)
        self.assertEqual(row, kept)

    def answers(self, desk, *pairs):
        for row, answer in pairs:
            told = desk.say(row)
            self.assertIs(type(told), str)
            self.assertEqual(told, answer, row)


class Book(Case):
    def test_empty(self):
        self.answers(Desk(), ("book", "none"))

    def test_say_and_unsay(self):
        desk = Desk()
        self.answers(
            desk,
            ("say one (p gives q)", "ok"),
            ("book", "one: (p gives q)"),
            ("say two p", "ok"),
            ("book", "one: (p gives q); two: p"),
            ("say nought nought", "ok"),
            ("book", "nought: nought; one: (p gives q); two: p"),
            ("unsay one", "ok"),
            ("book", "nought: nought; two: p"),
            ("unsay two", "ok"),
            ("unsay nought", "ok"),
            ("book", "none"),
        )

    def test_order_of_names(self):
        desk = self.desk("say b p", "say ab q", "say zebra r", "say a s")
        self.answers(desk, ("book", "a: s; ab: q; b: p; zebra: r"))

    def test_a_name_said_anew(self):
        desk = self.desk("say b p", "say a q", "say b (q or r)")
        self.answers(desk, ("book", "a: q; b: (q or r)"), ("ask p", "no"), ("ask (q or r)", "yes"))

    def test_names_that_are_no_letters(self):
        desk = self.desk("say and a", "say or b", "say gives c", "say nought d")
        self.answers(desk, ("book", "and: a; gives: c; nought: d; or: b"), ("unsay or", "ok"))

    def test_no_name(self):
        desk = self.desk("say a p")
        for row in ("unsay b", "unsay p", "unsay aa", "unsay nought", "unsay and"):
            self.refused(desk, NoName, row)
        desk.say("unsay a")
        self.refused(desk, NoName, "unsay a")
        self.refused(Desk(), NoName, "unsay abcdefgh")

    def test_four_names(self):
        desk = self.desk("say a p", "say b p", "say c p", "say d p")
        self.refused(desk, TooMany, "say e p")
        self.refused(desk, TooMany, "say e nought")
        self.answers(desk, ("say d q", "ok"), ("unsay b", "ok"), ("say e p", "ok"), ("book", "a: p; c: p; d: q; e: p"))

    def test_ten_tuples(self):
        self.desk(f"say one {chain(10)}")
        desk = self.desk(f"say one {chain(4)}", f"say two {chain(6)}")
        self.refused(desk, TooMany, f"say three {chain(1)}")
        self.refused(desk, TooMany, f"say one {chain(5)}")
        self.answers(desk, ("say three a", "ok"), ("unsay three", "ok"))
        self.answers(desk, (f"say two {chain(5)}", "ok"), (f"say one {chain(5)}", "ok"))

    def test_an_earlier_one_is_not_counted(self):
        desk = self.desk(f"say one {chain(10)}")
        self.answers(desk, (f"say one {chain(10)}", "ok"), (f"say one {chain(9)}", "ok"), ("say two (a or a)", "ok"))
        desk = self.desk("say one (a and b)", "say two (c and d)")
        self.answers(desk, ("say two (e and f)", "ok"), ("say one (g and h)", "ok"))
        self.answers(desk, ("book", "one: (g and h); two: (e and f)"))

    def test_four_letters(self):
        desk = self.desk("say one (a and b)", "say two (c and d)")
        self.refused(desk, TooMany, "say three e")
        self.refused(desk, TooMany, "say two (d and (c or e))")
        self.answers(desk, ("say three (a gives d)", "ok"), ("say four nought", "ok"))
        self.refused(Desk(), TooMany, "say one (a and (b and (c and (d and e))))")
        self.desk("say one (a and (b and (c and (d and nought))))")

    def test_two_desks(self):
        one, other = Desk(), Desk()
        self.answers(one, ("say a p", "ok"))
        self.answers(other, ("book", "none"), ("ask p", "no"), ("say a q", "ok"))
        self.answers(one, ("book", "a: p"), ("ask p", "yes"), ("ask q", "no"), ("unsay a", "ok"))
        self.answers(other, ("book", "a: q"))


class Ask(Case):
    def test_of_a_book(self):
        desk = self.desk("say a (p gives q)", "say b (q gives r)", "say c p")
        self.answers(
            desk,
            ("ask r", "yes"), ("ask (p and (q and r))", "yes"), ("ask s", "no"), ("ask nought", "no"),
            ("ask (s or (s gives nought))", "no"), ("ask (s gives s)", "yes"), ("ask p", "yes"),
            ("unsay c", "ok"), ("ask r", "no"), ("ask (p gives r)", "yes"), ("ask (r gives p)", "no"),
        )

    def test_of_an_empty_one(self):
        self.answers(
            Desk(),
            ("ask (p gives p)", "yes"), (f"ask {TRUTH_TEXT}", "yes"), ("ask p", "no"), ("ask nought", "no"),
            ("ask (p or (p gives nought))", "no"),
            ("ask (((p or (p gives nought)) gives nought) gives nought)", "yes"),
        )

    def test_of_a_book_with_nought(self):
        self.answers(self.desk("say a (p and (p gives nought))"), ("ask nought", "yes"), ("ask q", "yes"))

    def test_twelve_tuples(self):
        desk = self.desk(f"say one {chain(4)}", f"say two {chain(6)}")
        self.answers(desk, (f"ask {chain(2)}", "yes"))
        self.refused(desk, TooMany, f"ask {chain(3)}")
        self.refused(desk, TooMany, f"ask {chain(10)}")
        desk.say("unsay one")
        self.answers(desk, (f"ask {chain(6)}", "yes"))
        self.refused(desk, TooMany, f"ask {chain(7)}")
        self.answers(Desk(), (f"ask {chain(10)}", "no"))

    def test_four_letters(self):
        desk = self.desk("say one (a and (b and c))")
        self.answers(desk, ("ask (a or d)", "yes"), ("ask d", "no"))
        self.refused(desk, TooMany, "ask (d or e)")
        desk = self.desk("say one (a and b)", "say two (c and d)")
        self.answers(desk, ("ask (d and a)", "yes"))
        self.refused(desk, TooMany, "ask e")
        self.refused(Desk(), TooMany, "ask (a or (b or (c or (d or e))))")
        self.answers(Desk(), ("ask (a or (b or (c or d)))", "no"))

    def test_as_rows_are_settled(self):
        chance = random.Random(110)
        told = {"yes": 0, "no": 0}
        for turn in range(120):
            heap = [random_statement(chance, chance.randrange(4), ["p", "q", NOUGHT]) for each in range(3)]
            goal = random_statement(chance, 2, ["p", "q", NOUGHT])
            desk = self.desk(*[f"say {name} {show(each)}" for name, each in zip("abc", heap)])
            answer = desk.say(f"ask {show(goal)}")
            told[answer] += 1
            self.assertEqual(answer == "yes", settled(heap, goal)[0] == "reason")
        self.assertGreater(min(told.values()), 20)


class LeftAndNeeded(Case):
    def fits(self, statement, gone, text, deed):
        """The text is what the deed tells of the statement, by all that is promised of it."""
        told = read(text)
        self.assertLessEqual(letters_of(told), letters_of(statement) - set(gone))
        self.assertTrue(is_short(told))
        self.assertIs(alike(told, deed(statement, gone)), True)
        self.assertIs(gives(statement, told) if deed == left else gives(told, statement), True)

    def test_left(self):
        desk = self.desk("say a (p gives q)", "say b (q gives r)")
        self.answers(desk, ("left q", "(p gives r)"), ("left p", "(q gives r)"), ("left q p", TRUTH_TEXT))
        self.answers(desk, ("left q q", "(p gives r)"), ("left s q", "(p gives r)"), ("left p q r", TRUTH_TEXT))
        whole = ("and", ("gives", "p", "q"), ("gives", "q", "r"))
        for row in ("left p", "left r", "left p q", "left q p", "left r r p", "left s", "left zebra abcdefgh"):
            self.fits(whole, row.split(" ")[1:], desk.say(row), left)

    def test_left_of_one_and_of_none(self):
        self.answers(self.desk("say a (p and q)"), ("left p", "q"), ("left q", "p"), ("left p q", TRUTH_TEXT))
        self.answers(self.desk("say a nought"), ("left p", "nought"))
        self.answers(Desk(), ("left p", TRUTH_TEXT), ("left p q p", TRUTH_TEXT))

    def test_left_of_more(self):
        desk = self.desk("say b (p or q)", "say a (p gives r)", "say c (q gives r)")
        self.answers(desk, ("left p q", "r"), ("left q p", "r"))
        desk = self.desk("say a p", "say b q", "say c r", "say d (p gives q)")
        self.fits(("and", "p", ("and", "q", "r")), ["p"], desk.say("left p"), left)

    def test_left_beyond_the_bounds(self):
        desk = self.desk("say a (p and (p and p))", "say b (q and (q and q))")
        # Four tuples in the book's two, one of the and between them.
        self.assertEqual(desk.say("left p"), "q")
        desk.say("say c r")
        self.refused(desk, TooMany, "left p")
        desk.say("unsay c")
        desk.say("say b (q and (q and (q and q)))")
        self.refused(desk, TooMany, "left p")
        desk = self.desk("say a p", "say b q", "say c r", "say d s")
        self.refused(desk, TooMany, "left p")
        self.answers(desk, ("unsay d", "ok"), ("left p q", "r"))
        self.refused(self.desk(f"say a {chain(6)}"), TooMany, "left b")
        self.answers(self.desk(f"say a {chain(5)}"), ("left b", "a"))

    def test_needed(self):
        self.answers(
            Desk(),
            ("needed p (p or q)", "q"), ("needed p p", "nought"), ("needed p (p gives p)", TRUTH_TEXT),
            ("needed q (p gives q)", "(p gives nought)"), ("needed s q", "q"), ("needed p nought", "nought"),
        )

    def test_needed_with_a_book(self):
        desk = self.desk("say a (p gives q)", "say b (q gives r)")
        self.answers(desk, ("needed q (p gives r)", TRUTH_TEXT))
        whole = ("and", ("gives", "p", "q"), ("gives", "q", "r"))
        for letter in ("p", "q", "r", "s"):
            for text in ("r", "q", "nought", "(p gives q)"):
                answer = desk.say(f"needed {letter} {text}")
                self.fits(("gives", whole, read(text)), [letter], answer, needed)
        self.answers(self.desk("say a p"), ("needed p q", "q"), ("needed q (p and q)", "(p gives nought)"))

    def test_needed_beyond_the_bounds(self):
        desk = self.desk("say a (p and p)", "say b (q and q)")
        # Two in the book, the and between, the gives.
        self.answers(desk, ("needed p (q and q)", TRUTH_TEXT))
        self.refused(desk, TooMany, "needed p (q and (q and q))")
        self.refused(desk, TooMany, "needed p (r and s)")
        self.answers(desk, ("needed p (q or r)", TRUTH_TEXT))
        self.answers(Desk(), (f"needed b {chain(5)}", "a"))
        self.refused(Desk(), TooMany, f"needed b {chain(6)}")
        self.refused(self.desk("say a p"), TooMany, f"needed p {chain(5)}")
        self.answers(self.desk("say a p"), (f"needed p {chain(4)}", "a"))
        self.refused(Desk(), TooMany, "needed a (a or (b or (c or d)))")

    def test_many(self):
        chance = random.Random(111)
        for turn in range(80):
            one, other = [random_statement(chance, chance.randrange(3), ["p", "q", "r", NOUGHT]) for each in "ab"]
            desk = self.desk(f"say y {show(other)}", f"say x {show(one)}")
            gone = chance.sample("pqr", chance.randrange(1, 4))
            self.fits(("and", one, other), gone, desk.say("left " + " ".join(gone)), left)
            goal = chance.choice(["p", "q", "r", NOUGHT])
            if tuples(one) + tuples(other) <= 3:
                answer = desk.say(f"needed {gone[0]} {goal}")
                self.fits(("gives", ("and", one, other), goal), gone[:1], answer, needed)


class PlaceAndAlways(Case):
    def test_place(self):
        self.answers(
            Desk(),
            ("place p p", "rung 1"), ("place p nought", "rung 0"), ("place p (p gives nought)", "rung 2"),
            ("place zebra (zebra or (zebra gives nought))", "rung 3"), (f"place p {TRUTH_TEXT}", "truth"),
            ("place p (p gives p)", "truth"), ("place a ((a gives nought) gives nought)", "rung 4"),
            ("place p (((p gives nought) gives nought) gives p)", "rung 6"),
        )
        for number in range(7):
            self.answers(Desk(), (f"place p {show(rung(number, 'p'))}", f"rung {number}"))

    def test_place_whatever_the_book_has(self):
        desk = self.desk("say a p", "say b (q gives nought)")
        self.answers(desk, ("place p p", "rung 1"), ("place p (p or (p gives nought))", "rung 3"))

    def test_place_refused(self):
        desk = Desk()
        for row in ("place p q", "place p (p and q)", "place p (q gives q)", "place a (p gives p)"):
            self.refused(desk, NoLetter, row)
        self.refused(desk, TooMany, f"place a {chain(9)}")
        self.refused(desk, TooMany, f"place b {show(nested(NOUGHT, 10, deny))}")
        self.refused(desk, NoLetter, f"place b {chain(9)}")
        self.answers(desk, (f"place a {chain(8)}", "rung 1"))

    def test_always(self):
        self.answers(
            Desk(),
            ("always p", "no"), ("always nought", "no"), (f"always {TRUTH_TEXT}", "yes"), ("always (p gives p)", "yes"),
            ("always (p or (p gives nought))", "yes"), ("always (((p gives q) gives p) gives p)", "yes"),
            ("always (p gives q)", "no"), ("always (p and (p gives nought))", "no"),
        )
        self.answers(self.desk("say a p"), ("always p", "no"))


NO_ROWS = [
    "", " ", "  ", "\n", "say", "say ", "say a", "say a ", "say  a p", "say a  p", "say a p ", " say a p", "say p",
    "Say a p", "SAY a p", "say A p", "say abcdefghi p", "say a1 p", "say a P", "say a (p and q", "say a p q",
    "say (p and q)", "say a b p", "say a and", "say a (p and q))", "say a: p", "say\ta p", "say a\tp", "say a p\n",
    "says a p", "unsay", "unsay ", "unsay A", "unsay a b", "unsay abcdefghi", "unsay a ", "unsay  a", "unsay 1",
    "unsay (p and q)", "book ", " book", "book a", "Book", "books", "book\n", "none", "ok", "ask", "ask ", "ask P",
    "ask  p", "ask p ", "ask p q", "ask (p and q) ", "ask p?", "left", "left ", "left P", "left p ", "left  p",
    "left p  q", "left p, q", "left nought", "left p nought", "left and", "left p or", "left abcdefghi", "left p Q",
    "left (p)", "left 1", "left p (p and q)", "needed", "needed ", "needed p", "needed p ", "needed P p",
    "needed nought p", "needed and p", "needed p q r", "needed p  q", "needed (p or q)", "needed p (p or q) ",
    "needed abcdefghi p", "place", "place ", "place p", "place p ", "place nought p", "place or p", "place P p",
    "place p P", "place p  p", "place 1 p", "place p p p", "place abcdefghi p", "always", "always ", "always P",
    "always  p", "always p ", "always p q", "always (p)", "p", "(p and q)", "help", "say;book", "rung 1",
]


class Refused(Case):
    def test_no_row(self):
        for desk in (Desk(), self.desk("say a p", "say b (q gives r)")):
            for row in NO_ROWS:
                self.refused(desk, NoText, row)

    def test_no_text(self):
        desk = self.desk("say a p")
        for thing in (None, 0, 1, True, False, [], ["book"], (), ("book",), ("say", "a", "p"), ["say a p"]):
            self.refused(desk, NoText, thing)
        for thing in ODD_THINGS:
            self.refused(desk, NoText, thing)

    def test_no_text_ahead_of_all_else(self):
        desk = self.desk("say a p", "say b q", "say c r", "say d s")
        for row in (
            "say e P", "say e (p and q", f"say e {chain(11)}", "say E p", f"ask {chain(11)}", "ask (p and (q and x)",
            "left p nought", "left p P", f"needed p {chain(11)}", "needed nought (p and q)", f"place p {chain(11)}",
            "place p (q and q", "place nought q", f"place and {chain(9)}", f"always {chain(11)}", "unsay e ", "unsay E",
        ):
            self.refused(desk, NoText, row)

    def test_long_rows(self):
        desk = Desk()
        for row in ("say a " + "(" * 794, "a" * 800, "left " + "p " * 390, "ask " + "~" * 790, " " * 800):
            self.refused(desk, NoText, row)
        self.answers(desk, ("left" + " p" * 390, TRUTH_TEXT))

    def test_answers_behind_a_refusal(self):
        desk = self.desk("say a (p gives q)")
        for refusal, row in ((NoText, "say a p q"), (NoName, "unsay b"), (TooMany, "say b (r and (s and t))")):
            self.refused(desk, refusal, row)
            self.answers(desk, ("ask (p gives q)", "yes"), ("ask q", "no"), ("book", "a: (p gives q)"))

    def test_rows_leave_the_book_as_it_is(self):
        desk = self.desk("say a (p gives q)", "say b p")
        before = desk.say("book")
        rows = ("ask q", "left p", "left q p", "needed p q", "place p p", "always p", "book")
        first = [desk.say(row) for row in rows]
        self.assertEqual(desk.say("book"), before)
        self.assertEqual([desk.say(row) for row in reversed(rows)], first[::-1])


class FromTextToAnswer(Case):
    def test_left_told_to_another_desk(self):
        chance = random.Random(112)
        done = {"yes": 0, "no": 0}
        for turn in range(60):
            parts = [random_statement(chance, 2, ["p", "q", "r", NOUGHT]) for each in "ab"]
            desk = self.desk(*[f"say {name} {show(part)}" for name, part in zip("ab", parts)])
            gone = chance.choice(["p", "q", "r"])
            other = self.desk("say left " + desk.say(f"left {gone}"))
            leaves = [letter for letter in "pqr" if letter != gone] + [NOUGHT]
            for each in range(8):
                question = "ask " + show(random_statement(chance, chance.randrange(3), leaves))
                answer = desk.say(question)
                done[answer] += 1
                self.assertEqual(other.say(question), answer, (parts, gone, question))
        self.assertGreater(min(done.values()), 50)

    def test_left_has_its_place(self):
        chance = random.Random(113)
        for turn in range(60):
            statement = random_statement(chance, chance.randrange(1, 6), ["p", "q", NOUGHT])
            told = left(statement, ["p"])
            self.assertLessEqual(set(letters(told)), {"q"})
            found = place(told, "q")
            for number in range(13):
                given = gives(statement, rung(number, "q"))
                self.assertIs(given, gives(told, rung(number, "q")), (statement, told, number))
            answer = Desk().say(f"place q {show(told)}")
            self.assertEqual(answer, "truth" if found[0] == "truth" else f"rung {found[1]}")
            self.assertEqual(alike(told, TRUTH), answer == "truth")

    def test_needed_is_the_least(self):
        chance = random.Random(114)
        for turn in range(50):
            statement = random_statement(chance, chance.randrange(1, 6), ["p", "q", NOUGHT], SIGNS)
            told = read(Desk().say(f"needed p {show(statement)}"))
            for number in range(9):
                self.assertIs(gives(rung(number, "q"), statement), gives(rung(number, "q"), told))


if __name__ == "__main__":
    unittest.main()
