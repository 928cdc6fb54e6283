import copy
import itertools
import unittest

from lesssay.errors import NoLetter, NoName, NoReason, NoRule, NoRung, NoText, SayError, TooMany
from lesssay.joining import joined, once, side
from lesssay.reasons import stands
from lesssay.settling import settled
from lesssay.statements import put
from tests.checks import all_lists_differ, is_reason_form, plain_stands, random_rows, spoil
from tests.samples import NOUGHT, ODD_THINGS, TRUTH, nested, small_statements

AB = ("and", "a", "b")
OR = ("or", "a", "b")
GIVES = ("gives", "a", "b")
OTHERS = (NoRule, NoLetter, NoRung, NoText, NoName, TooMany)


def deny(statement):
    return ("gives", statement, NOUGHT)


def here(letter):
    return ("here", letter, [])


def reason_for(heap, goal):
    kind, reason = settled(heap, goal)
    assert kind == "reason", (heap, goal)
    return reason


MIDDLE = ("or", "a", deny("a"))

# (heap, middle, goal): the heap gives the middle, and with the middle the goal.
JOINS = [
    ([], TRUTH, TRUTH),
    (["a"], "a", "a"),
    (["a"], OR, ("or", "b", "a")),
    ([AB], "a", OR),
    ([AB], ("and", "b", "a"), "b"),
    (["a", GIVES], "b", ("and", "b", "a")),
    (["a", GIVES, ("gives", "b", "c")], "b", "c"),
    ([OR, ("gives", "a", "c"), ("gives", "b", "c")], "c", ("or", "c", "d")),
    ([OR], ("or", "b", "a"), OR),
    ([deny("a"), deny("b")], deny(OR), ("gives", OR, "c")),
    ([deny(deny(deny("a")))], deny("a"), ("gives", "a", "b")),
    ([("gives", OR, "d")], ("gives", "a", "d"), ("gives", AB, "d")),
    ([("gives", AB, "d")], ("gives", "a", ("gives", "b", "d")), ("gives", "b", ("gives", "a", "d"))),
    ([("gives", ("gives", "a", "b"), "d"), "b"], "d", ("and", "d", "b")),
    ([("gives", MIDDLE, "b")], deny(deny("b")), deny(deny("b"))),
    ([("gives", MIDDLE, NOUGHT)], NOUGHT, "d"),
    (["a", deny("a")], NOUGHT, "d"),
    ([NOUGHT], "d", ("and", "d", "d")),
    ([], deny(deny(MIDDLE)), ("gives", deny(MIDDLE), "c")),
    ([], ("gives", "a", "a"), ("gives", "b", ("gives", "a", "a"))),
    ([GIVES], ("gives", deny("b"), deny("a")), ("gives", deny(deny("a")), deny(deny("b")))),
]

# (heap, twice, goal, reason): reasons that use up both.
TWICE = [
    ([], AB, "b", ("open", AB, [("open", AB, [here("b")])])),
    ([], AB, AB, ("open", AB, [("open", AB, [("both", AB, [here("a"), here("b")])])])),
    (["a"], GIVES, "b", ("use", GIVES, [("use", GIVES, [here("b")])])),
    ([], "a", "a", here("a")),
    ([], NOUGHT, AB, ("both", AB, [("void", NOUGHT, []), ("void", NOUGHT, [])])),
    (
        [], OR, ("or", "b", "a"),
        ("cases", OR, [
            ("second", ("or", "b", "a"), [here("a")]),
            ("cases", OR, [
                ("second", ("or", "b", "a"), [here("a")]),
                ("first", ("or", "b", "a"), [here("b")]),
            ]),
        ]),
    ),
    (
        ["b"], ("gives", GIVES, "d"), "d",
        ("try", ("gives", GIVES, "d"), [
            ("try", ("gives", GIVES, "d"), [
                ("assume", GIVES, [here("b")]),
                ("assume", GIVES, [here("b")]),
            ]),
            here("d"),
        ]),
    ),
    (
        ["b"], ("gives", OR, "d"), "d",
        ("split", ("gives", OR, "d"), [("split", ("gives", OR, "d"), [("use", ("gives", "b", "d"), [here("d")])])]),
    ),
    (
        ["a"], ("gives", NOUGHT, "b"), "a",
        ("idle", ("gives", NOUGHT, "b"), [("idle", ("gives", NOUGHT, "b"), [here("a")])]),
    ),
]

# Statements one and other of which no statements give one or the other.
SIDES = [
    (TRUTH, "a"),
    ("a", TRUTH),
    (TRUTH, TRUTH),
    (("gives", "a", "a"), NOUGHT),
    (MIDDLE, deny(deny(MIDDLE))),
    (("gives", AB, "a"), ("gives", AB, "b")),
    (("and", TRUTH, ("gives", AB, OR)), "b"),
    (("or", "a", TRUTH), "b"),
    ("b", ("or", TRUTH, "a")),
]


class Case(unittest.TestCase):
    def told(self, heap, goal, reason, *handed):
        """What is told is a reason that stands for the row, by the document's words, and is new."""
        self.assertTrue(is_reason_form(reason))
        self.assertTrue(plain_stands(heap, goal, reason), (heap, goal, reason))
        self.assertIs(stands(heap, goal, reason), True)
        self.assertTrue(all_lists_differ(reason))
        own = {id(each) for each in handed}
        self.assertFalse(any(id(part) in own for part in parts_of(reason)))

    def refused(self, deed, *handed):
        with self.assertRaises(NoReason) as caught:
            deed(*handed)
        self.assertIsInstance(caught.exception, SayError)
        self.assertIsInstance(caught.exception, ValueError)
        self.assertNotIsInstance(caught.exception, OTHERS)


def parts_of(reason):
    """The lists of parts of a reason."""
    yield reason[2]
    for part in reason[2]:
        yield from parts_of(part)


def falsely(reason):
    """Things near a reason that are none that stands where it does."""
    rule, about, parts = reason
    yield [rule, about, parts]
    yield rule, about, tuple(parts)
    yield rule, about, parts + [here("a")]
    yield rule, about
    yield rule, about, parts, []
    yield "her", about, parts
    yield rule, [about], parts
    yield rule, ("and", about, about), parts
    if parts:
        yield rule, about, parts[1:]
        yield rule, about, [None] + parts[1:]
        yield parts[0], about, parts


class Joined(Case):
    def test_ordinary_rows(self):
        for heap, middle, goal in JOINS:
            one, other = reason_for(heap, middle), reason_for(heap + [middle], goal)
            reason = joined(heap, middle, goal, one, other)
            self.told(heap, goal, reason, *parts_of(one), *parts_of(other))

    def test_reasons_of_own_making(self):
        one = ("use", GIVES, [here("b")])
        other = ("use", ("gives", "b", "c"), [here("c")])
        heap = ["a", GIVES, ("gives", "b", "c")]
        self.told(heap, "c", joined(heap, "b", "c", one, other))
        other = ("use", GIVES, [("use", ("gives", "b", "c"), [here("c")])])
        self.told(heap, "c", joined(heap, "b", "c", one, other))
        one = ("open", AB, [("both", ("and", "b", "a"), [here("b"), here("a")])])
        other = ("open", ("and", "b", "a"), [("open", AB, [here("a")])])
        self.told([AB], "a", joined([AB], ("and", "b", "a"), "a", one, other))
        one = ("assume", ("gives", "a", "a"), [here("a")])
        other = ("assume", ("gives", "b", "b"), [here("b")])
        self.told([], ("gives", "b", "b"), joined([], ("gives", "a", "a"), ("gives", "b", "b"), one, other))
        one, other = ("void", NOUGHT, []), ("void", NOUGHT, [])
        self.told([NOUGHT], "a", joined([NOUGHT], NOUGHT, "a", one, other))

    def test_a_middle_of_a_gives_that_is_tried(self):
        tried = ("gives", GIVES, "d")
        one = ("assume", GIVES, [here("b")])
        other = ("try", tried, [("assume", GIVES, [here("b")]), here("d")])
        self.told(["b", tried], "d", joined(["b", tried], GIVES, "d", one, other))

    def test_many_rows(self):
        done = 0
        rows = list(random_rows(20, 1500))
        for (heap, goal), (more, middle) in zip(rows, rows[1:]):
            kinds = settled(heap, middle), settled(heap + [middle], goal)
            if kinds[0][0] == "reason" and kinds[1][0] == "reason":
                self.told(heap, goal, joined(heap, middle, goal, kinds[0][1], kinds[1][1]))
                done += 1
        self.assertGreater(done, 300)

    def test_what_was_told_is_joined_again(self):
        step = ("or", "a", deny(deny("a")))
        big = put(nested("a", 4, lambda part: ("or", part, deny(part))), "a", step)
        heap = [big]
        one, other = reason_for(heap, ("or", "b", big)), reason_for(heap + [("or", "b", big)], ("or", big, "b"))
        reason = joined(heap, ("or", "b", big), ("or", big, "b"), one, other)
        self.told(heap, ("or", big, "b"), reason)
        again = joined(heap, ("or", big, "b"), ("or", big, "b"), reason, reason)
        self.told(heap, ("or", big, "b"), again)

    def test_refused(self):
        for heap, middle, goal in JOINS:
            one, other = reason_for(heap, middle), reason_for(heap + [middle], goal)
            for thing in ODD_THINGS + list(falsely(one)):
                self.refused(joined, heap, middle, goal, thing, other)
            for thing in ODD_THINGS + list(falsely(other)):
                self.refused(joined, heap, middle, goal, one, thing)
            self.refused(joined, heap, middle, goal, None, None)

    def test_refused_though_it_stands_elsewhere(self):
        heap = ["a", GIVES, ("gives", "b", "c")]
        one = reason_for(heap, "b")
        other = reason_for(heap + ["b"], "c")
        joined(heap, "b", "c", one, other)
        self.refused(joined, heap, "b", "c", other, one)
        self.refused(joined, heap[1:], "b", "c", one, other)
        self.refused(joined, heap, "c", "c", one, here("c"))
        self.refused(joined, heap, "b", "d", one, other)
        # The middle stands in the second row alone.
        self.refused(joined, [], "a", "a", here("a"), here("a"))
        self.refused(joined, ["b"], "a", "b", here("a"), here("b"))


class Once(Case):
    def test_reasons_that_use_both(self):
        for heap, twice, goal, reason in TWICE:
            self.assertTrue(plain_stands(heap + [twice, twice], goal, reason))
            told = once(heap, twice, goal, reason)
            self.told(heap + [twice], goal, told, *parts_of(reason))

    def test_many_rows(self):
        done = 0
        for heap, goal in random_rows(21, 800):
            if heap:
                *rest, twice = heap
                kind, reason = settled(heap + [twice], goal)
                if kind == "reason":
                    self.told(heap, goal, once(rest, twice, goal, reason))
                    done += 1
        self.assertGreater(done, 200)

    def test_refused(self):
        for heap, twice, goal, reason in TWICE:
            for thing in ODD_THINGS + list(falsely(reason)):
                self.refused(once, heap, twice, goal, thing)

    def test_refused_though_it_stands_elsewhere(self):
        self.refused(once, [], "a", "b", here("a"))
        self.refused(once, [], "a", "b", here("b"))
        self.refused(once, ["a"], "b", "c", here("c"))
        thrice = nested(here("a"), 3, lambda part: ("open", AB, [part]))
        self.refused(once, [], AB, "a", thrice)
        self.told([AB, AB], "a", once([AB], AB, "a", thrice))


class Side(Case):
    def check(self, one, other, reason):
        before = copy.deepcopy(reason)
        told = side(one, other, reason)
        self.assertEqual(reason, before)
        self.assertIs(type(told), tuple)
        which, part = told
        self.assertIn(which, ("first", "second"))
        self.told([], one if which == "first" else other, part, *parts_of(reason))
        return which

    def test_settled_reasons(self):
        for one, other in SIDES:
            self.check(one, other, reason_for([], ("or", one, other)))

    def test_either_side(self):
        both = ("or", TRUTH, ("gives", "a", "a"))
        first = ("first", both, [("assume", TRUTH, [("void", NOUGHT, [])])])
        second = ("second", both, [("assume", ("gives", "a", "a"), [here("a")])])
        self.assertEqual(self.check(TRUTH, ("gives", "a", "a"), first), "first")
        self.assertEqual(self.check(TRUTH, ("gives", "a", "a"), second), "second")
        alone = ("gives", "a", "a")
        part = ("assume", alone, [here("a")])
        self.assertEqual(self.check(alone, alone, ("first", ("or", alone, alone), [part])), "first")
        self.assertEqual(self.check(alone, alone, ("second", ("or", alone, alone), [part])), "second")

    def test_small_statements(self):
        done = 0
        small = small_statements(1, ["a", NOUGHT])
        for one, other in itertools.product(small, small):
            kind, reason = settled([], ("or", one, other))
            if kind == "reason":
                self.check(one, other, reason)
                done += 1
        self.assertGreater(done, 50)

    def test_refused(self):
        for one, other in SIDES:
            reason = reason_for([], ("or", one, other))
            for thing in ODD_THINGS + list(falsely(reason)):
                self.refused(side, one, other, thing)

    def test_refused_though_it_stands_elsewhere(self):
        reason = reason_for([], ("or", TRUTH, "a"))
        self.refused(side, "a", TRUTH, reason)
        self.refused(side, TRUTH, "b", reason)
        self.refused(side, TRUTH, "a", reason[2][0])
        self.refused(side, "a", "b", ("first", OR, [here("a")]))
        self.refused(side, "a", deny("a"), ("second", MIDDLE, [("assume", deny("a"), [here("a")])]))

    def test_one_part_at_several_places(self):
        part = ("assume", TRUTH, [("void", NOUGHT, [])])
        pair = ("and", TRUTH, TRUTH)
        reason = ("second", ("or", "a", pair), [("both", pair, [part, part])])
        self.check("a", pair, reason)


class Keeping(Case):
    def test_nothing_handed_in_is_changed(self):
        for heap, middle, goal in JOINS:
            handed = [heap, middle, goal, reason_for(heap, middle), reason_for(heap + [middle], goal)]
            before = copy.deepcopy(handed)
            joined(*handed)
            self.assertEqual(handed, before)
        for heap, twice, goal, reason in TWICE:
            handed = [heap, twice, goal, reason]
            before = copy.deepcopy(handed)
            once(*handed)
            self.assertEqual(handed, before)

    def test_what_was_told_is_the_askers_own(self):
        for heap, middle, goal in JOINS:
            handed = [heap, middle, goal, reason_for(heap, middle), reason_for(heap + [middle], goal)]
            first = joined(*handed)
            kept = copy.deepcopy(first)
            spoil(first)
            self.assertEqual(joined(*handed), kept)
        for one, other in SIDES:
            reason = reason_for([], ("or", one, other))
            first = side(one, other, reason)
            kept = copy.deepcopy(first)
            second = side(one, other, reason)
            spoil(first)
            self.assertEqual(second, kept)
            self.assertEqual(side(one, other, reason), kept)
            spoil(reason)
            self.assertEqual(second, kept)

    def test_what_was_handed_in_may_be_changed(self):
        heap = ["a"]
        reason = ("first", OR, [here("a")])
        told = joined(heap, "a", OR, here("a"), reason)
        heap.clear()
        reason[2].clear()
        self.told(["a"], OR, told)
        self.refused(joined, heap, "a", OR, here("a"), reason)


if __name__ == "__main__":
    unittest.main()
