import itertools
import unittest

from lesssay.heaps import lesser, weight
from lesssay.statements import put
from tests.samples import LETTERS, NOUGHT, TRUTH, nested, small_statements

# One statement of each weight, so that a heap can be written by its weights alone.
OF_WEIGHT = {
    1: "a",
    3: ("or", "a", "b"),
    4: ("and", "a", NOUGHT),
    5: ("gives", "a", ("or", "b", "a")),
    6: ("gives", ("and", "b", "a"), "c"),
}


def heap_of(*weights):
    return [OF_WEIGHT[worth] for worth in weights]


class Weight(unittest.TestCase):
    def test_leaves(self):
        for leaf in LETTERS + [NOUGHT]:
            self.assertEqual(weight(leaf), 1, leaf)

    def test_each_sign(self):
        self.assertEqual(weight(("and", "a", "b")), 4)
        self.assertEqual(weight(("or", "a", "b")), 3)
        self.assertEqual(weight(("gives", "a", "b")), 3)
        self.assertEqual(weight(TRUTH), 3)

    def test_within_one_another(self):
        self.assertEqual(weight(("and", ("and", "a", "b"), ("or", "a", "b"))), 9)
        self.assertEqual(weight(("or", ("and", "a", "b"), ("gives", "a", NOUGHT))), 8)
        self.assertEqual(weight(("gives", ("gives", "a", "b"), ("and", "a", ("or", "b", "c")))), 10)
        self.assertEqual(weight(("or", "andy", "givesx")), 3)

    def test_against_the_words_of_the_document(self):
        def told(statement):
            if not isinstance(statement, tuple):
                return 1
            sign, one, other = statement
            return told(one) + told(other) + (2 if sign == "and" else 1)

        for statement in small_statements(3, ["a"]):
            self.assertEqual(weight(statement), told(statement), statement)

    def test_samples_have_their_weights(self):
        for worth, statement in OF_WEIGHT.items():
            self.assertEqual(weight(statement), worth)


class Lesser(unittest.TestCase):
    def check(self, one, other, expected):
        self.assertIs(lesser(heap_of(*one), heap_of(*other)), expected, (one, other))

    def test_empty_heaps(self):
        self.check((), (), False)
        self.check((), (1,), True)
        self.check((1,), (), False)

    def test_one_statement_each(self):
        self.check((1,), (3,), True)
        self.check((3,), (1,), False)
        self.check((3,), (3,), False)

    def test_many_lesser_ones_against_one(self):
        self.check((4, 4, 3, 3, 1, 1), (5,), True)
        self.check((5,), (4, 4, 3, 3, 1, 1), False)
        self.check((4, 5), (5,), False)
        self.check((5,), (4, 5), True)

    def test_weights_in_common_are_struck_out(self):
        self.check((6, 1), (6, 3), True)
        self.check((6, 3), (6, 1), False)
        self.check((6, 5, 1, 1), (1, 6, 6), True)
        self.check((1, 6, 6), (6, 5, 1, 1), False)
        self.check((6, 3, 3), (6, 3), False)
        self.check((6, 3), (3, 3, 6), True)

    def test_struck_out_as_often_as_both_have_it(self):
        self.check((5, 5), (5, 6), True)
        self.check((5, 5, 1), (5, 3), False)
        self.check((5, 3, 3, 3), (5, 5), True)
        self.check((5, 5), (5, 3, 3, 3), False)

    def test_equal_greatest_is_not_less(self):
        self.check((4, 4, 1), (4, 3), False)
        self.check((4, 3), (4, 4, 1), True)

    def test_only_weights_count(self):
        self.assertIs(lesser([("or", "a", "b")], [("gives", NOUGHT, "c")]), False)
        self.assertIs(lesser(["a"], ["b", NOUGHT]), True)

    def test_order_changes_nothing(self):
        for one in itertools.permutations((6, 3, 1)):
            for other in itertools.permutations((6, 4)):
                self.check(one, other, True)
                self.check(other, one, False)

    def test_no_heap_is_lesser_than_itself_and_lesser_of_lesser_is_lesser(self):
        heaps = [
            weights for many in range(4)
            for weights in itertools.combinations_with_replacement((1, 3, 4), many)
        ]
        for one, other in itertools.product(heaps, heaps):
            below = lesser(heap_of(*one), heap_of(*other))
            above = lesser(heap_of(*other), heap_of(*one))
            # Heaps of whole numbers as weights stand all in one row.
            self.assertEqual((below, above, one == other).count(True), 1, (one, other))
            # This row is that of the weights from the greatest on.
            self.assertIs(below, sorted(one, reverse=True) < sorted(other, reverse=True))

    def test_handed_in_is_not_changed_and_not_kept(self):
        one, other = heap_of(6, 1), heap_of(6, 3)
        self.assertIs(lesser(one, other), True)
        self.assertEqual((one, other), (heap_of(6, 1), heap_of(6, 3)))
        one.append(OF_WEIGHT[5])
        self.assertIs(lesser(one, other), False)


class WhatWasToldMayBeHandedInAgain(unittest.TestCase):
    def test_very_deep(self):
        step = nested("a", 10, lambda part: ("and", NOUGHT, part))
        deep = "a"
        for turn in range(300):
            deep = put(deep, "a", step)
        self.assertEqual(weight(deep), 3000 * 3 + 1)
        self.assertIs(lesser([deep], [("or", deep, "a")]), True)
        self.assertIs(lesser([("or", deep, "a")], [deep]), False)


if __name__ == "__main__":
    unittest.main()
