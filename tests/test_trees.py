import copy
import random
import unittest

from lesssay.reasons import stands
from lesssay.settling import settled
from lesssay.trees import holds, is_tree, refutes, worlds
from tests.checks import plain_holds, plain_refutes, random_rows, random_statement, worlds_of
from tests.samples import LETTERS, NO_LEAVES, NOUGHT, ODD_THINGS, TRUTH, nested, small_statements

EMPTY = ([], [])
A = (["a"], [])
B = (["b"], [])
BOTH = (["a", "b"], [])
FORK = ([], [A, B])
STEP = ([], [A])
CHAIN = ([], [(["a"], [BOTH])])
LADDER = (["c"], [(["a", "c"], [(["a", "b", "c"], [])]), (["b", "c"], [])])
TREES = [EMPTY, A, B, BOTH, FORK, STEP, CHAIN, LADDER, ([], [EMPTY, EMPTY, ([], [A, EMPTY])]), (["a"], [A, BOTH, A])]


def deny(statement):
    return ("gives", statement, NOUGHT)


def random_tree(chance, many, letters=()):
    """A tree of so many worlds, whose letters grow from the root on."""
    own = sorted(set(letters) | {each for each in "abc" if chance.random() < 0.25})
    above = []
    left = many - 1
    while left:
        part = chance.randint(1, left)
        above.append(random_tree(chance, part, own))
        left -= part
    return own, above


class IsTree(unittest.TestCase):
    def yes(self, thing):
        self.assertIs(is_tree(thing), True, repr(thing)[:200])

    def no(self, thing):
        self.assertIs(is_tree(thing), False, repr(thing)[:200])
        # What is no tree is none above another one either.
        self.assertIs(is_tree(([], [A, thing])), False, repr(thing)[:200])
        self.assertIs(is_tree(([], [([], [thing]), B])), False, repr(thing)[:200])

    def test_trees(self):
        for tree in TREES:
            self.yes(tree)
        for letter in LETTERS:
            self.yes(([letter], []))
            self.yes(([], [([letter], [])]))
        self.yes((sorted(LETTERS), []))
        self.yes((["a", "aa", "ab", "b"], [(["a", "aa", "ab", "b", "ba"], [])]))

    def test_odd_things(self):
        for thing in ODD_THINGS + LETTERS + [NOUGHT, TRUTH, [[], []], [["a"], []], {}, "ab"]:
            self.no(thing)

    def test_letters_doubled_or_out_of_order(self):
        for letters in (["a", "a"], ["b", "a"], ["a", "b", "b"], ["a", "c", "b"], ["b", "aa"], ["ab", "aa"]):
            self.no((letters, []))
            self.no(([], [(letters, [])]))

    def test_what_is_no_letter(self):
        self.no(([NOUGHT], []))
        for thing in NO_LEAVES + [NOUGHT]:
            self.no(([thing], []))
            self.no((["a", thing], []))
            self.no(([thing, "b"], []))

    def test_letters_that_are_no_list(self):
        for letters in ((), ("a",), "a", "", "ab", None, 0, True, {}):
            self.no((letters, []))
            self.no((letters, [A]))

    def test_above_that_is_no_list_of_trees(self):
        for above in ((), (A,), A, None, "", "a", 0, False, [None], [A, None], [[]], ["a"], [["a"], []], [0], [()]):
            self.no(([], above))

    def test_above_without_a_letter_of_the_one_beneath(self):
        self.no((["a"], [EMPTY]))
        self.no((["a"], [B]))
        self.no((["a"], [A, B]))
        self.no((["a", "b"], [BOTH, A]))
        self.no((["a"], [(["a", "b"], [(["b"], [])])]))
        self.no(([], [(["a"], [(["b", "c"], [])])]))
        self.no((["a"], [(["aa"], [])]))
        self.yes((["a"], [(["a", "b"], [(["a", "b", "c"], []), BOTH])]))

    def test_tuples_of_other_lengths(self):
        for thing in ((), ([],), (["a"],), ([], [], []), (["a"], [], []), ([], [A], B)):
            self.no(thing)

    def test_deep_ones(self):
        self.yes(nested(A, 29, lambda tree: ([], [tree])))
        self.yes(nested(A, 29, lambda tree: (["a"], [tree])))
        self.no(nested(B, 27, lambda tree: (["a"], [tree])))
        self.no(nested(None, 29, lambda tree: ([], [tree])))
        self.no(nested([], 29, lambda tree: ([], [tree])))
        self.no(nested((["a"], ()), 28, lambda tree: ([], [tree])))
        self.yes(([], [A] * 600))
        self.no(([], [A] * 600 + [(["a", "a"], [])]))
        small = "abcdefghijklmnopqrstuvwxyz"
        names = sorted("n" + one + other for one in small for other in small)
        self.yes((names, [(names, [])]))
        self.no((names, [(names[:-1], [])]))

    def test_whatever_its_size(self):
        high = nested(A, 3000, lambda tree: ([], [tree]))
        self.assertIs(is_tree(high), True)
        self.assertIs(is_tree((["a"], [high])), False)


class Worlds(unittest.TestCase):
    def test_counted(self):
        for tree, many in ((EMPTY, 1), (A, 1), (STEP, 2), (FORK, 3), (CHAIN, 3), (LADDER, 4)):
            self.assertEqual(worlds(tree), many)
            self.assertIs(type(worlds(tree)), int)

    def test_as_often_as_they_stand_there(self):
        self.assertEqual(worlds(([], [A, A])), 3)
        self.assertEqual(worlds(([], [FORK, FORK, A])), 8)
        shared = [A, A]
        self.assertEqual(worlds(([], [([], shared), ([], shared)])), 7)

    def test_against_the_words_of_the_document(self):
        chance = random.Random(3)
        for many in list(range(1, 11)) * 5:
            tree = random_tree(chance, many)
            self.assertEqual(worlds(tree), many)
            self.assertIs(is_tree(tree), True)

    def test_whatever_its_size(self):
        self.assertEqual(worlds(nested(A, 3000, lambda tree: ([], [tree, A]))), 6001)


class Holds(unittest.TestCase):
    def at(self, tree, statement, expected):
        self.assertIs(holds(tree, statement), expected, (tree, statement))

    def test_letters_and_nought(self):
        self.at(A, "a", True)
        self.at(A, "b", False)
        self.at(A, "aa", False)
        self.at(STEP, "a", False)
        self.at((["ab"], []), "a", False)
        for tree in TREES:
            self.at(tree, NOUGHT, False)
            self.at(tree, TRUTH, True)

    def test_and(self):
        self.at(BOTH, ("and", "a", "b"), True)
        self.at(A, ("and", "a", "b"), False)
        self.at(B, ("and", "a", "b"), False)
        self.at(EMPTY, ("and", "a", "b"), False)

    def test_or(self):
        self.at(BOTH, ("or", "a", "b"), True)
        self.at(A, ("or", "a", "b"), True)
        self.at(B, ("or", "a", "b"), True)
        self.at(EMPTY, ("or", "a", "b"), False)
        self.at(FORK, ("or", "a", "b"), False)

    def test_gives(self):
        self.at(EMPTY, ("gives", "a", "b"), True)
        self.at(A, ("gives", "a", "b"), False)
        self.at(B, ("gives", "a", "b"), True)
        self.at(BOTH, ("gives", "a", "b"), True)

    def test_gives_at_each_world(self):
        # At the letters of the root it would hold, but not at a world above.
        self.at(STEP, ("gives", "a", "b"), False)
        self.at(FORK, ("gives", "a", "b"), False)
        self.at(CHAIN, ("gives", "a", "b"), False)
        self.at(CHAIN, ("gives", "b", "a"), True)
        self.at(([], [BOTH]), ("gives", "a", "b"), True)
        self.at(([], [BOTH, ([], [([], [A])])]), ("gives", "a", "b"), False)
        self.at(([], [BOTH, ([], [([], [B])])]), ("gives", "a", "b"), True)
        # The root itself is among its worlds.
        self.at((["a"], [BOTH]), ("gives", "a", "b"), False)

    def test_denials(self):
        self.at(STEP, deny("a"), False)
        self.at(STEP, deny(deny("a")), True)
        self.at(STEP, ("or", "a", deny("a")), False)
        self.at(STEP, ("gives", deny(deny("a")), "a"), False)
        self.at(FORK, ("or", deny("a"), deny(deny("a"))), False)
        self.at(A, ("or", deny("a"), deny(deny("a"))), True)
        self.at(EMPTY, deny("a"), True)

    def test_gives_within_gives(self):
        self.at(STEP, ("gives", ("gives", ("gives", "a", "b"), "a"), "a"), False)
        self.at(A, ("gives", ("gives", ("gives", "a", "b"), "a"), "a"), True)
        self.at(FORK, ("or", ("gives", "a", "b"), ("gives", "b", "a")), False)
        self.at(CHAIN, ("or", ("gives", "a", "b"), ("gives", "b", "a")), True)

    def test_against_the_words_of_the_document(self):
        chance = random.Random(12)
        trees = TREES + [random_tree(chance, chance.randint(1, 10)) for turn in range(25)]
        statements = small_statements(2, ["a", "b", NOUGHT])[::5]
        statements += [random_statement(chance, 10, ["a", "b", "c", NOUGHT]) for turn in range(25)]
        answers = set()
        for tree in trees:
            for statement in statements:
                expected = plain_holds(tree, statement)
                answers.add(expected)
                self.at(tree, statement, expected)
        self.assertEqual(answers, {True, False})

    def test_what_holds_at_a_tree_holds_at_each_of_its_worlds(self):
        chance = random.Random(13)
        for turn in range(60):
            tree = random_tree(chance, 10)
            statement = random_statement(chance, 7, ["a", "b", "c", NOUGHT])
            if holds(tree, statement):
                for world in worlds_of(tree):
                    self.at(world, statement, True)

    def test_whatever_its_size(self):
        high = nested(BOTH, 1500, lambda tree: ([], [tree]))
        self.at(high, deny(deny("a")), True)
        self.at(high, ("gives", "a", "b"), True)
        self.at(([], [high, A]), ("gives", "a", "b"), False)
        deep = nested("a", 3000, deny)
        self.at(STEP, deep, True)
        self.at(STEP, deny(deep), False)


class Refutes(unittest.TestCase):
    def test_both_answers(self):
        self.assertIs(refutes(STEP, [], ("or", "a", deny("a"))), True)
        self.assertIs(refutes(A, [], ("or", "a", deny("a"))), False)
        self.assertIs(refutes(A, ["a"], "b"), True)
        self.assertIs(refutes(A, ["a", "b"], NOUGHT), False)
        self.assertIs(refutes(A, ["b", "a"], NOUGHT), False)
        self.assertIs(refutes(A, ["a"], "a"), False)
        self.assertIs(refutes(BOTH, ["a", "b", "a"], NOUGHT), True)
        self.assertIs(refutes(STEP, [deny(deny("a"))], "a"), True)
        self.assertIs(refutes(STEP, [deny(deny("a")), "a"], "a"), False)
        self.assertIs(refutes(EMPTY, [], TRUTH), False)
        self.assertIs(refutes(EMPTY, [], NOUGHT), True)

    def test_the_root_alone_refutes(self):
        # Only a world above refutes these.
        self.assertIs(refutes(STEP, ["a"], "b"), False)
        self.assertIs(refutes(FORK, ["a"], "b"), False)
        self.assertIs(refutes(([], [A]), ["a"], NOUGHT), False)

    def test_against_the_words_of_the_document(self):
        chance = random.Random(14)
        answers = set()
        for heap, goal in random_rows(15, 150):
            for turn in range(4):
                tree = random_tree(chance, chance.randint(1, 10))
                expected = plain_refutes(tree, heap, goal)
                answers.add(expected)
                self.assertIs(refutes(tree, heap, goal), expected, (tree, heap, goal))
        self.assertEqual(answers, {True, False})

    def test_a_row_with_a_reason_is_refuted_by_no_tree(self):
        chance = random.Random(16)
        for heap, goal in random_rows(17, 200):
            kind, told = settled(heap, goal)
            if kind == "reason":
                self.assertIs(stands(heap, goal, told), True)
                for turn in range(5):
                    tree = random_tree(chance, chance.randint(1, 10))
                    self.assertIs(refutes(tree, heap, goal), False, (tree, heap, goal))


class Keeping(unittest.TestCase):
    def test_nothing_handed_in_is_changed(self):
        heap = [("gives", "a", "b"), "a"]
        for tree in TREES:
            before = copy.deepcopy(tree)
            is_tree(tree)
            worlds(tree)
            holds(tree, ("or", "a", deny("a")))
            refutes(tree, heap, "b")
            self.assertEqual(tree, before)
        self.assertEqual(heap, [("gives", "a", "b"), "a"])

    def test_what_is_changed_later_is_seen_anew(self):
        letters, above, heap = [], [], ["a"]
        tree = (letters, above)
        self.assertIs(holds(tree, deny("a")), True)
        above.append(A)
        self.assertIs(holds(tree, deny("a")), False)
        self.assertEqual(worlds(tree), 2)
        letters.append("a")
        self.assertIs(holds(tree, "a"), True)
        self.assertIs(refutes(tree, heap, "b"), True)
        letters.append("b")
        self.assertIs(is_tree(tree), False)
        above.clear()
        self.assertIs(is_tree(tree), True)
        self.assertIs(refutes(tree, heap, "b"), False)
        heap.append("c")
        self.assertIs(refutes(tree, heap, "d"), False)


if __name__ == "__main__":
    unittest.main()
