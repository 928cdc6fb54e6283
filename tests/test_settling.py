import copy
import itertools
import random
import unittest

from lesssay.reasons import stands
from lesssay.rules import needs
from lesssay.settling import alike, gives, settled
from lesssay.statements import put
from lesssay.trees import is_tree, refutes, worlds
from tests.checks import (
    RULES, all_lists_differ, is_reason_form, is_tree_form, plain_needs, plain_refutes, plain_stands, random_rows,
    random_statement, spoil,
)
from tests.samples import NOUGHT, SIGNS, TRUTH, nested, small_statements


def deny(statement):
    return ("gives", statement, NOUGHT)


def both_ways(one, other):
    return ("and", ("gives", one, other), ("gives", other, one))


PEIRCE = ("gives", ("gives", ("gives", "a", "b"), "a"), "a")
MIDDLE = ("or", "a", deny("a"))
EITHER = ("or", ("gives", "a", "b"), ("gives", "b", "a"))

# Rows (heap, goal) that have a reason.
HOLD = [
    (["a"], "a"),
    ([NOUGHT], "a"),
    ([NOUGHT], NOUGHT),
    ([], TRUTH),
    ([], ("gives", "a", "a")),
    ([], ("gives", "a", ("gives", "b", "a"))),
    ([], ("gives", NOUGHT, "a")),
    (["a", deny("a")], "b"),
    (["a"], deny(deny("a"))),
    ([deny(deny(deny("a")))], deny("a")),
    ([], deny(deny(MIDDLE))),
    ([], deny(deny(PEIRCE))),
    ([], deny(deny(EITHER))),
    ([], deny(deny(("gives", deny(deny("a")), "a")))),
    ([], deny(("and", "a", deny("a")))),
    ([("or", "a", "b")], ("or", "b", "a")),
    ([("and", "a", "b")], ("and", "b", "a")),
    ([("and", "a", ("or", "b", "c"))], ("or", ("and", "a", "b"), ("and", "a", "c"))),
    ([("or", ("and", "a", "b"), ("and", "a", "c"))], ("and", "a", ("or", "b", "c"))),
    ([("or", "a", ("and", "b", "c"))], ("and", ("or", "a", "b"), ("or", "a", "c"))),
    ([("and", ("or", "a", "b"), ("or", "a", "c"))], ("or", "a", ("and", "b", "c"))),
    ([deny("a"), deny("b")], deny(("or", "a", "b"))),
    ([deny(("or", "a", "b"))], ("and", deny("a"), deny("b"))),
    ([("or", deny("a"), deny("b"))], deny(("and", "a", "b"))),
    ([("gives", "a", "b")], ("gives", deny("b"), deny("a"))),
    ([("or", deny("a"), "b")], ("gives", "a", "b")),
    ([("gives", "a", "b"), ("gives", "b", "c"), ("gives", "c", "d"), "a"], "d"),
    ([("gives", ("and", "a", "b"), "c")], ("gives", "a", ("gives", "b", "c"))),
    ([("gives", "a", ("gives", "b", "c"))], ("gives", ("and", "a", "b"), "c")),
    ([("gives", ("or", "a", "b"), "c")], ("and", ("gives", "a", "c"), ("gives", "b", "c"))),
    ([("gives", PEIRCE, "b")], "b"),
    ([("gives", ("or", "a", ("gives", "a", "b")), "b")], "b"),
    ([("gives", "a", ("gives", "a", "b"))], ("gives", "a", "b")),
    ([MIDDLE, deny(deny("a"))], "a"),
    ([MIDDLE, ("or", "b", deny("b"))], EITHER),
    ([deny(deny("a")), deny(deny("b"))], deny(deny(("and", "a", "b")))),
    ([deny(deny(("gives", "a", "b")))], ("gives", deny(deny("a")), deny(deny("b")))),
    ([("gives", deny(deny("a")), deny(deny("b")))], deny(deny(("gives", "a", "b")))),
    (["a", "b", "c", "d", ("gives", ("and", "a", ("and", "b", ("and", "c", "d"))), NOUGHT)], NOUGHT),
    ([("or", "a", "b"), ("or", deny("a"), "c"), ("gives", "b", "c")], "c"),
    ([both_ways("a", "b"), both_ways("b", "c")], both_ways("a", "c")),
    ([("or", ("or", "a", "b"), ("or", "c", "d")), deny("a"), deny("b"), deny("c")], "d"),
]

# Rows that have none; but for the first five each of them holds at every setting of truths.
HOLD_NOT = [
    ([], "a"),
    ([], NOUGHT),
    (["a"], "b"),
    ([("or", "a", "b")], ("and", "a", "b")),
    ([("gives", "a", "b"), "b"], "a"),
    ([], MIDDLE),
    ([], PEIRCE),
    ([], EITHER),
    ([deny(deny("a"))], "a"),
    ([], ("or", deny("a"), deny(deny("a")))),
    ([deny(("and", "a", "b"))], ("or", deny("a"), deny("b"))),
    ([("gives", deny("b"), deny("a"))], ("gives", "a", "b")),
    ([("gives", "a", "b")], ("or", deny("a"), "b")),
    ([("gives", "a", ("or", "b", "c"))], ("or", ("gives", "a", "b"), ("gives", "a", "c"))),
    ([deny(("gives", "a", "b"))], ("and", "a", deny("b"))),
    ([("gives", deny("a"), ("or", "b", "c"))], ("or", ("gives", deny("a"), "b"), ("gives", deny("a"), "c"))),
    ([("gives", ("gives", deny(deny("a")), "a"), MIDDLE)], ("or", deny("a"), deny(deny("a")))),
    ([], ("or", ("gives", "a", "b"), ("gives", "b", "c"))),
    ([("or", ("gives", "a", "c"), ("gives", "b", "d"))], ("or", ("gives", "a", "d"), EITHER)),
    ([("gives", ("gives", "a", "b"), "c")], ("or", "a", "c")),
    ([], ("or", "a", ("gives", "a", ("or", "b", deny("b"))))),
]


class Case(unittest.TestCase):
    def answer(self, heap, goal):
        """Settle a row; what is told is checked by the document's words and by the program's own."""
        before = copy.deepcopy((heap, goal))
        told = settled(heap, goal)
        self.assertEqual((heap, goal), before)
        self.assertIs(type(told), tuple)
        kind, paper = told
        if kind == "reason":
            self.assertTrue(is_reason_form(paper))
            self.assertTrue(plain_stands(heap, goal, paper), (heap, goal, paper))
            self.assertIs(stands(heap, goal, paper), True)
        else:
            self.assertEqual(kind, "tree")
            self.assertTrue(is_tree_form(paper), paper)
            self.assertTrue(plain_refutes(paper, heap, goal), (heap, goal, paper))
            self.assertIs(is_tree(paper), True)
            self.assertIs(refutes(paper, heap, goal), True)
        self.assertTrue(all_lists_differ(heap, paper))
        return kind


class Settled(Case):
    def test_rows_that_hold(self):
        for heap, goal in HOLD:
            self.assertEqual(self.answer(heap, goal), "reason", (heap, goal))

    def test_rows_that_do_not(self):
        for heap, goal in HOLD_NOT:
            self.assertEqual(self.answer(heap, goal), "tree", (heap, goal))

    def test_rows_that_only_trees_of_more_worlds_refute(self):
        for heap, goal in HOLD_NOT[5:]:
            self.assertGreater(worlds(settled(heap, goal)[1]), 1)

    def test_other_letters(self):
        for heap, goal in HOLD + HOLD_NOT:
            for one, other in (("a", "zebra"), ("b", "andy"), ("a", "letter"), ("c", "a")):
                renamed = [put(each, one, other) for each in heap], put(goal, one, other)
                self.answer(*renamed)

    def test_all_small_rows_of_one_letter(self):
        small = small_statements(2, ["a", NOUGHT])
        told = {"reason": 0, "tree": 0}
        for goal in small:
            told[self.answer([], goal)] += 1
        for one, goal in itertools.product(small[::3], small[1::4]):
            told[self.answer([one], goal)] += 1
        self.assertGreater(min(told.values()), 100)

    def test_many_rows(self):
        told = {"reason": 0, "tree": 0}
        for heap, goal in random_rows(1, 1200):
            told[self.answer(heap, goal)] += 1
        self.assertGreater(min(told.values()), 200)

    def test_twelve_tuples_in_one_statement(self):
        chance = random.Random(2)
        for leaves in (["a"], ["a", NOUGHT], ["a", "b", NOUGHT], ["a", "b", "c", "d", NOUGHT]):
            for turn in range(40):
                one = random_statement(chance, 12, leaves)
                self.answer([], one)
                self.answer([one], chance.choice(leaves))

    def test_six_statements(self):
        chance = random.Random(3)
        for leaves in (["a", "b", NOUGHT], ["a", "b", "c", "d"], ["a", "b", "c", "d", NOUGHT]):
            for signs in (SIGNS, ("gives",)):
                for turn in range(40):
                    heap = [random_statement(chance, 2, leaves, signs) for each in range(6)]
                    self.answer(heap, chance.choice(leaves))

    def test_each_rule_in_some_reason(self):
        # All but idle, which no reason must have.
        found = set()
        for heap, goal in HOLD:
            waiting = [settled(heap, goal)[1]]
            while waiting:
                rule, about, parts = waiting.pop()
                found.add(rule)
                waiting.extend(parts)
        self.assertLessEqual(set(RULES) - {"idle"}, found)

    def test_statements_doubled_or_of_no_avail(self):
        for heap, goal in HOLD:
            for more in (heap, [TRUTH], [("gives", NOUGHT, "a")], [("gives", "c", "c")], ["d", ("or", "d", "a")]):
                self.assertEqual(self.answer(more + heap, goal), "reason")
        for heap, goal in HOLD_NOT:
            for more in (heap, [TRUTH], [("gives", NOUGHT, "a")], [("gives", "c", "c")]):
                self.assertEqual(self.answer(heap + more, goal), "tree")

    def test_the_order_of_the_heap_changes_no_answer(self):
        chance = random.Random(4)
        for heap, goal in list(random_rows(5, 120)) + HOLD + HOLD_NOT:
            kind = self.answer(heap, goal)
            for turn in range(3):
                order = chance.sample(heap, len(heap))
                self.assertEqual(self.answer(order, goal), kind, (order, goal))

    def test_settings_of_truths(self):
        # What a heap gives holds at each tree of one world.
        for heap, goal in random_rows(6, 200):
            if settled(heap, goal)[0] == "reason":
                for letters in itertools.chain.from_iterable(itertools.combinations("abcd", n) for n in range(5)):
                    self.assertFalse(plain_refutes((list(letters), []), heap, goal), (heap, goal))

    def test_trees_are_not_needlessly_large(self):
        for heap, goal in HOLD_NOT:
            self.assertLessEqual(worlds(settled(heap, goal)[1]), 10)


class GivesAndAlike(unittest.TestCase):
    def test_gives(self):
        for heap, goal in HOLD:
            if len(heap) == 1:
                self.assertIs(gives(heap[0], goal), True, (heap, goal))
        for heap, goal in HOLD_NOT:
            if len(heap) == 1:
                self.assertIs(gives(heap[0], goal), False, (heap, goal))
        self.assertIs(gives(TRUTH, MIDDLE), False)
        self.assertIs(gives(NOUGHT, MIDDLE), True)
        self.assertIs(gives(MIDDLE, TRUTH), True)

    def test_alike(self):
        pairs = [
            ("a", "a"),
            ("a", ("and", "a", "a")),
            ("a", ("or", "a", NOUGHT)),
            ("a", ("gives", TRUTH, "a")),
            (TRUTH, ("gives", "b", "b")),
            (NOUGHT, ("and", "a", deny("a"))),
            (deny("a"), deny(deny(deny("a")))),
            (deny(("or", "a", "b")), ("and", deny("a"), deny("b"))),
            (("gives", "a", ("gives", "b", "c")), ("gives", ("and", "b", "a"), "c")),
            (deny(deny(("gives", "a", "b"))), ("gives", deny(deny("a")), deny(deny("b")))),
            (deny(deny(MIDDLE)), TRUTH),
        ]
        for one, other in pairs:
            self.assertIs(alike(one, other), True, (one, other))
            self.assertIs(alike(other, one), True, (one, other))

    def test_not_alike(self):
        pairs = [
            ("a", "b"),
            ("a", NOUGHT),
            ("a", TRUTH),
            ("a", deny(deny("a"))),
            (MIDDLE, TRUTH),
            (PEIRCE, TRUTH),
            (("and", "a", "b"), "a"),
            (("or", "a", "b"), "a"),
            (deny(("and", "a", "b")), ("or", deny("a"), deny("b"))),
            (("gives", "a", "b"), ("gives", deny("b"), deny("a"))),
        ]
        for one, other in pairs:
            self.assertIs(alike(one, other), False, (one, other))
            self.assertIs(alike(other, one), False, (one, other))

    def test_as_rows_are_settled(self):
        small = small_statements(1, ["a", NOUGHT]) + [deny(deny("a")), MIDDLE, PEIRCE, deny("b")]
        for one, other in itertools.product(small, small):
            self.assertIs(gives(one, other), settled([one], other)[0] == "reason")
            self.assertIs(alike(one, other), gives(one, other) and gives(other, one))

    def test_what_is_given_is_given_on(self):
        small = [deny(deny("a")), MIDDLE, "a", deny("a"), TRUTH, NOUGHT, ("or", deny("a"), deny(deny("a")))]
        for one, two, three in itertools.product(small, small, small):
            if gives(one, two) and gives(two, three):
                self.assertIs(gives(one, three), True, (one, two, three))


class HandedInAgain(Case):
    def test_needs(self):
        for heap, goal in list(random_rows(7, 150)) + HOLD + HOLD_NOT:
            kind = self.answer(heap, goal)
            for rule, about in itertools.product(RULES, heap + [goal]):
                if plain_needs(heap, goal, rule, about) is not None:
                    kinds = [self.answer(more, wanted) for more, wanted in needs(heap, goal, rule, about)]
                    if "tree" not in kinds:
                        self.assertEqual(kind, "reason", (heap, goal, rule, about))
                    elif rule not in ("first", "second", "try"):
                        self.assertEqual(kind, "tree", (heap, goal, rule, about))

    def test_a_heap_with_its_goal_put_to_it(self):
        for heap, goal in random_rows(8, 150):
            self.assertEqual(self.answer(heap + [goal], goal), "reason")
            self.answer(heap + [goal], NOUGHT)

    def test_statements_of_reasons(self):
        for heap, goal in HOLD:
            waiting = [settled(heap, goal)[1]]
            while waiting:
                rule, about, parts = waiting.pop()
                self.answer(heap, about)
                self.answer([about], goal)
                waiting.extend(parts)

    def test_what_was_put_together(self):
        chance = random.Random(9)
        leaves = ["a", "b", "c", NOUGHT]
        for turn in range(25):
            one, other = [
                put(random_statement(chance, 10, leaves), "a", random_statement(chance, 10, leaves)) for each in "ab"
            ]
            self.answer([one], other)
            self.assertEqual(self.answer([one], one), "reason")
            small = random_statement(chance, 3, leaves)
            for sign in SIGNS:
                made = (sign, one, other)
                self.answer([made], small)
                self.answer([made, small], (sign, small, one))
            self.assertEqual(self.answer([("and", one, other)], ("or", other, one)), "reason")
            chain = [("gives", one, other), ("gives", other, small)]
            self.assertEqual(self.answer(chain, ("gives", one, small)), "reason")

    def test_the_same_put_for_a_letter(self):
        chance = random.Random(11)
        for heap, goal in HOLD:
            for turn in range(3):
                other = random_statement(chance, 6, ["a", "b", "c", NOUGHT])
                rows = [put(each, "a", other) for each in heap], put(goal, "a", other)
                self.assertEqual(self.answer(*rows), "reason", rows)

    def test_very_deep(self):
        deep = nested("a", 1000, deny)
        again = nested("a", 1000, deny)
        self.assertIs(alike(deep, deny(deny("a"))), True)
        self.assertIs(alike(deny(deep), deny("a")), True)
        self.assertIs(gives(deep, "a"), False)
        self.assertIs(gives(deep, again), True)
        kind, tree = settled([deep], "a")
        self.assertEqual(kind, "tree")
        self.assertIs(refutes(tree, [again], "a"), True)
        kind, reason = settled([deep], deny(deny("a")))
        self.assertEqual(kind, "reason")
        self.assertIs(stands([again], deny(deny("a")), reason), True)


class Keeping(Case):
    def test_what_was_told_is_the_askers_own(self):
        for heap, goal in HOLD + HOLD_NOT:
            first = settled(heap, goal)
            kept = copy.deepcopy(first)
            second = settled(heap, goal)
            self.assertTrue(all_lists_differ(first, second))
            spoil(first)
            self.assertEqual(second, kept)
            self.assertEqual(settled(heap, goal), kept)

    def test_what_was_handed_in_may_be_changed(self):
        heap = [("gives", "a", "b"), "a"]
        kind, reason = settled(heap, "b")
        heap.pop()
        self.assertEqual(self.answer(heap, "b"), "tree")
        self.assertTrue(plain_stands([("gives", "a", "b"), "a"], "b", reason))
        heap.append("b")
        self.assertEqual(self.answer(heap, "b"), "reason")


if __name__ == "__main__":
    unittest.main()
