import copy
import itertools
import random
import unittest

from lesssay.reasons import height, size, stands
from lesssay.settling import settled
from tests.checks import RULES, plain_stands, random_rows
from tests.samples import NOUGHT, ODD_THINGS, TRUTH, nested

AB = ("and", "a", "b")
OR = ("or", "a", "b")
GIVES = ("gives", "a", "b")
CURRY = ("gives", AB, "d")
SPLIT = ("gives", OR, "d")
TRY = ("gives", GIVES, "d")
IDLE = ("gives", NOUGHT, "b")
MIXED = ("or", "c", AB)


def here(letter):
    return ("here", letter, [])


def void():
    return ("void", NOUGHT, [])


def use(letter, gain, part):
    return ("use", ("gives", letter, gain), [part])


# Of each rule a row, every statement of which is used, and a reason that stands for it.
BY_RULE = {
    "here": (["a"], "a", here("a")),
    "void": ([NOUGHT], "a", void()),
    "both": (["a", "b"], AB, ("both", AB, [here("a"), here("b")])),
    "first": (["a"], OR, ("first", OR, [here("a")])),
    "second": (["b"], OR, ("second", OR, [here("b")])),
    "assume": (["b"], GIVES, ("assume", GIVES, [here("b")])),
    "open": ([AB], "b", ("open", AB, [here("b")])),
    "cases": (
        [MIXED, ("gives", "c", "b")], "b",
        ("cases", MIXED, [use("c", "b", here("b")), ("open", AB, [here("b")])]),
    ),
    "use": (["a", GIVES], "b", use("a", "b", here("b"))),
    "idle": ([IDLE, "a"], "a", ("idle", IDLE, [here("a")])),
    "curry": (
        ["a", "b", CURRY], "d",
        ("curry", CURRY, [use("a", ("gives", "b", "d"), use("b", "d", here("d")))]),
    ),
    "split": (["b", SPLIT], "d", ("split", SPLIT, [use("b", "d", here("d"))])),
    "try": (["b", TRY], "d", ("try", TRY, [("assume", GIVES, [here("b")]), here("d")])),
}

# Reasons of more rules within one another, with their sizes and heights; the last one does not stand.
GREATER = [
    ([], ("gives", "a", "a"), ("assume", ("gives", "a", "a"), [here("a")]), 2, 2),
    ([], TRUTH, ("assume", TRUTH, [void()]), 2, 2),
    (
        [AB], ("and", "b", "a"),
        ("both", ("and", "b", "a"), [("open", AB, [here("b")]), ("open", AB, [here("a")])]), 5, 3,
    ),
    (
        [OR], ("or", "b", "a"),
        ("cases", OR, [
            ("second", ("or", "b", "a"), [here("a")]),
            ("first", ("or", "b", "a"), [here("b")]),
        ]), 5, 3,
    ),
    (
        [("gives", ("gives", GIVES, "a"), "d"), "a"], "d",
        ("try", ("gives", ("gives", GIVES, "a"), "d"), [
            ("assume", ("gives", GIVES, "a"), [here("a")]),
            here("d"),
        ]), 4, 3,
    ),
    (
        ["a", ("gives", "a", NOUGHT)], AB,
        ("use", ("gives", "a", NOUGHT), [("both", AB, [void(), here("a")])]), 4, 3,
    ),
]


def with_node(reason, path, change):
    """The reason with the part at the end of the path replaced by its change."""
    if not path:
        return change(reason)
    rule, about, parts = reason
    at = path[0]
    return rule, about, parts[:at] + [with_node(parts[at], path[1:], change)] + parts[at + 1:]


def paths(reason):
    yield ()
    for at, part in enumerate(reason[2]):
        for path in paths(part):
            yield (at,) + path


class ReasonsThatStand(unittest.TestCase):
    def test_one_of_each_rule(self):
        self.assertEqual(sorted(BY_RULE), sorted(RULES))
        for rule, (heap, goal, reason) in BY_RULE.items():
            self.assertEqual(reason[0], rule)
            self.assertIs(stands(heap, goal, reason), True, rule)

    def test_greater_ones(self):
        for heap, goal, reason, many, high in GREATER[:-1]:
            self.assertIs(stands(heap, goal, reason), True, reason)

    def test_part_that_stands_not_for_its_need(self):
        heap, goal, reason, many, high = GREATER[-1]
        self.assertIs(stands(heap, goal, reason), False)
        repaired = with_node(reason, (0, 0), lambda part: here("a"))
        self.assertIs(stands(heap, goal, repaired), False)
        repaired = with_node(repaired, (0, 1), lambda part: void())
        self.assertIs(stands(heap, goal, repaired), True)

    def test_needs_in_their_order(self):
        swapped = ("both", AB, [here("b"), here("a")])
        self.assertIs(stands(["a", "b"], AB, swapped), False)
        self.assertIs(stands(["b", "a"], AB, swapped), False)

    def test_what_comes_more_is_no_more_there_than_the_rule_brings(self):
        # The statement that a rule is about is taken out once.
        twice = ("open", AB, [("open", AB, [here("a")])])
        self.assertIs(stands([AB], "a", twice), False)
        self.assertIs(stands([AB, AB], "a", twice), True)
        # By the goal nothing is taken out.
        self.assertIs(stands(["a"], ("gives", "b", "a"), ("assume", ("gives", "b", "a"), [here("a")])), True)

    def test_other_rows(self):
        rows = [(heap, goal) for heap, goal, reason in BY_RULE.values()]
        for heap, goal, reason in BY_RULE.values():
            for other_heap, other_goal in rows:
                expected = plain_stands(other_heap, other_goal, reason)
                self.assertIs(stands(other_heap, other_goal, reason), expected, (other_heap, other_goal, reason))


class WhatDoesNotStand(unittest.TestCase):
    SAMPLES = list(BY_RULE.values()) + [sample[:3] for sample in GREATER[:-1]]

    def each_node(self):
        for heap, goal, reason in self.SAMPLES:
            for path in paths(reason):
                yield heap, goal, reason, path

    def refused(self, heap, goal, reason, path, change):
        changed = with_node(reason, path, change)
        self.assertIs(stands(heap, goal, changed), False, repr((heap, goal, changed))[:300])

    def test_another_rule(self):
        for heap, goal, reason, path in self.each_node():
            for rule in RULES:
                changed = with_node(reason, path, lambda part: (rule,) + part[1:])
                if changed != reason:
                    self.assertIs(stands(heap, goal, changed), False, (heap, goal, changed))

    def test_about_another_statement(self):
        others = ["a", "b", "c", "d", "e", NOUGHT, TRUTH, AB, OR, GIVES, CURRY, SPLIT, TRY, IDLE, MIXED]
        for heap, goal, reason, path in self.each_node():
            for about in others:
                changed = with_node(reason, path, lambda part: (part[0], about, part[2]))
                if changed != reason:
                    self.assertIs(stands(heap, goal, changed), False, (heap, goal, changed))

    def test_part_too_few_or_too_many(self):
        for heap, goal, reason, path in self.each_node():
            for more in (here("a"), void(), reason, None):
                self.refused(heap, goal, reason, path, lambda part: part[:2] + (part[2] + [more],))
                self.refused(heap, goal, reason, path, lambda part: part[:2] + ([more] + part[2],))
            self.refused(heap, goal, reason, path, lambda part: part[:2] + (part[2] + part[2] + [part],))
            if with_node(reason, path, lambda part: part[:2] + (part[2][:-1],)) != reason:
                self.refused(heap, goal, reason, path, lambda part: part[:2] + (part[2][:-1],))
                self.refused(heap, goal, reason, path, lambda part: part[:2] + ([],))

    def test_tuple_in_place_of_the_list_and_list_in_place_of_the_tuple(self):
        for heap, goal, reason, path in self.each_node():
            self.refused(heap, goal, reason, path, lambda part: part[:2] + (tuple(part[2]),))
            self.refused(heap, goal, reason, path, list)
            self.refused(heap, goal, reason, path, lambda part: part[:2])
            self.refused(heap, goal, reason, path, lambda part: part + ([],))
            self.refused(heap, goal, reason, path, lambda part: (part,))
            self.refused(heap, goal, reason, path, lambda part: [part])
            self.refused(heap, goal, reason, path, lambda part: (part[1], part[0], part[2]))
            self.refused(heap, goal, reason, path, lambda part: part[::-1])

    def test_any_thing_at_each_place(self):
        small = [thing for thing in ODD_THINGS if len(repr(thing)) < 60]
        for heap, goal, reason, path in self.each_node():
            for thing in small:
                self.refused(heap, goal, reason, path, lambda part: thing)
                self.refused(heap, goal, reason, path, lambda part: (thing,) + part[1:])
                self.refused(heap, goal, reason, path, lambda part: (part[0], thing, part[2]))
                changed = with_node(reason, path, lambda part: part[:2] + (thing,))
                if changed != reason:
                    self.assertIs(stands(heap, goal, changed), False, changed)

    def test_greater_things(self):
        for thing in ODD_THINGS:
            for heap, goal, reason in self.SAMPLES:
                self.assertIs(stands(heap, goal, thing), False)
                self.assertIs(stands(heap, goal, (thing, reason[1], reason[2])), False)
                self.assertIs(stands(heap, goal, (reason[0], thing, reason[2])), False)
                self.assertIs(stands(heap, goal, (reason[0], reason[1], [thing])), False)

    def test_deep_and_wide_things(self):
        chain = nested(here("a"), 29, lambda part: ("open", AB, [part]))
        self.assertIs(stands(["a"], "a", chain), False)
        self.assertIs(stands([AB] * 29, "a", chain), True)
        self.assertIs(stands([AB] * 28, "a", chain), False)
        self.assertIs(stands(["a"], "a", nested([], 29, lambda part: ("here", "a", [part]))), False)
        self.assertIs(stands(["a"], "a", ("here", "a", [here("a")] * 600)), False)
        self.assertIs(stands([OR], "a", ("cases", OR, [here("a")] * 600)), False)
        wide = nested("a", 8, lambda part: ("and", part, part))
        self.assertIs(stands(["a"], "a", ("here", wide, [])), False)
        self.assertIs(stands([wide], "a", ("open", wide, [here("a")])), False)

    def test_words_that_are_like_rules(self):
        for rule in ("Here", "here ", " here", "", "her", "heres", "nought", "a", "by_here", "letter"):
            self.assertIs(stands(["a"], "a", (rule, "a", [])), False, rule)


class SizeAndHeight(unittest.TestCase):
    def check(self, reason, many, high):
        self.assertEqual((size(reason), height(reason)), (many, high), reason)
        self.assertIs(type(size(reason)), int)
        self.assertIs(type(height(reason)), int)

    def test_of_each_rule(self):
        expected = {
            "here": (1, 1), "void": (1, 1), "both": (3, 2), "first": (2, 2), "second": (2, 2), "assume": (2, 2),
            "open": (2, 2), "cases": (5, 3), "use": (2, 2), "idle": (2, 2), "curry": (4, 4), "split": (3, 3),
            "try": (4, 3),
        }
        for rule, (heap, goal, reason) in BY_RULE.items():
            self.check(reason, *expected[rule])

    def test_of_greater_ones(self):
        for heap, goal, reason, many, high in GREATER:
            self.check(reason, many, high)

    def test_by_the_form_alone(self):
        self.check(("here", NOUGHT, []), 1, 1)
        self.check(("both", "a", []), 1, 1)
        self.check(("open", "a", [here("a"), here("b"), here("c")]), 4, 2)
        self.check(("here", "a", [("void", "b", [("try", "c", [])]), here("a")]), 4, 3)
        self.check(("here", "a", [here("a"), ("void", "b", [("try", "c", [here("b")])])]), 5, 4)

    def test_one_reason_at_several_places(self):
        part = ("open", AB, [here("a")])
        double = ("both", AB, [part, part])
        self.check(double, 5, 3)
        self.check(("cases", OR, [double, double, part]), 13, 4)
        shared = [here("a"), here("a")]
        self.check(("both", AB, [("both", AB, shared), ("both", AB, shared)]), 7, 3)
        grown = here("a")
        for turn in range(8):
            grown = ("both", AB, [grown, grown])
        self.check(grown, 2 ** 9 - 1, 9)

    def test_high_ones(self):
        self.check(nested(here("a"), 29, lambda part: ("open", AB, [part])), 30, 30)
        self.check(nested(here("a"), 5000, lambda part: ("open", AB, [part])), 5001, 5001)


class GreaterHeaps(unittest.TestCase):
    def test_each_order_and_doubled(self):
        for heap, goal, reason in BY_RULE.values():
            for order in itertools.permutations(heap + [("or", "d", "a")]):
                self.assertIs(stands(list(order), goal, reason), True, order)
            for order in itertools.permutations(heap):
                self.assertIs(stands(list(order), goal, reason), True, order)
            self.assertIs(stands(heap + heap, goal, reason), True)
            self.assertIs(stands(heap[::-1] + heap + heap[:1], goal, reason), True)
            self.assertIs(stands([goal, NOUGHT] + heap, goal, reason), True)

    def test_more_statements_ahead_between_and_behind(self):
        others = ["a", "b", "d", "e", NOUGHT, TRUTH, AB, OR, GIVES, CURRY, SPLIT, TRY, IDLE, MIXED]
        for heap, goal, reason in BY_RULE.values():
            for other in others:
                for at in range(len(heap) + 1):
                    self.assertIs(stands(heap[:at] + [other] + heap[at:], goal, reason), True, (heap, other))

    def test_not_where_a_used_statement_is_taken_out(self):
        for heap, goal, reason in BY_RULE.values():
            for at in range(len(heap)):
                self.assertIs(stands(heap[:at] + heap[at + 1:], goal, reason), False, (heap, at))
        self.assertIs(stands([AB], "a", ("open", AB, [("open", AB, [here("a")])])), False)

    def test_not_for_another_goal(self):
        for heap, goal, reason in BY_RULE.values():
            if reason[0] != "void":
                for other in ("c", NOUGHT, TRUTH):
                    self.assertIs(stands(heap, other, reason), False, (heap, other))
        self.assertIs(stands([NOUGHT], AB, void()), True)

    def test_settled_reasons(self):
        chance = random.Random(10)
        for heap, goal in random_rows(10, 150):
            kind, reason = settled(heap, goal)
            if kind == "reason":
                more = heap + [chance.choice([AB, OR, TRY, "a", NOUGHT, ("gives", "b", "c")]) for each in range(3)]
                more += heap[:2]
                chance.shuffle(more)
                self.assertIs(stands(more, goal, reason), True, (more, goal))
                for at in range(len(heap)):
                    fewer = heap[:at] + heap[at + 1:]
                    self.assertIs(stands(fewer, goal, reason), plain_stands(fewer, goal, reason), (fewer, goal))


class Keeping(unittest.TestCase):
    def test_nothing_handed_in_is_changed(self):
        for heap, goal, reason in BY_RULE.values():
            before = copy.deepcopy((heap, goal, reason))
            stands(heap, goal, reason)
            stands(heap + ["e"], "e", reason)
            size(reason)
            height(reason)
            self.assertEqual((heap, goal, reason), before)

    def test_what_is_changed_later_is_seen_anew(self):
        heap, parts = ["b"], [here("b")]
        reason = ("assume", GIVES, parts)
        self.assertIs(stands(heap, GIVES, reason), True)
        parts.append(here("b"))
        self.assertIs(stands(heap, GIVES, reason), False)
        self.assertEqual((size(reason), height(reason)), (3, 2))
        parts.pop()
        heap.clear()
        self.assertIs(stands(heap, GIVES, reason), False)
        heap.append("b")
        self.assertIs(stands(heap, GIVES, reason), True)
        parts.clear()
        self.assertEqual((size(reason), height(reason)), (1, 1))
        self.assertIs(stands(heap, GIVES, reason), False)


class WhateverItsSize(unittest.TestCase):
    def test_high_reasons_that_were_told(self):
        high = nested("a", 700, lambda part: ("gives", "a", part))
        kind, reason = settled([], high)
        self.assertEqual(kind, "reason")
        self.assertGreaterEqual(height(reason), 700)
        self.assertIs(stands([], high, reason), True)
        self.assertIs(stands([], ("gives", "b", high), reason), False)


if __name__ == "__main__":
    unittest.main()
