import itertools
import unittest

from lesssay.errors import NoRule, SayError
from lesssay.heaps import lesser
from lesssay.rules import needs
from lesssay.statements import put, tuples
from tests.samples import LETTERS, NOUGHT, ODD_THINGS, TRUTH, nested, small_statements

RULES = [
    "both", "first", "second", "assume", "here", "void", "open", "cases", "use", "idle", "curry", "split", "try",
]
GOAL_RULES = RULES[:4]
AB = ("and", "a", "b")
OR = ("or", "a", "b")
GIVES = ("gives", "a", "b")
CURRY = ("gives", AB, "d")
SPLIT = ("gives", OR, "d")
TRY = ("gives", GIVES, "d")
IDLE = ("gives", NOUGHT, "b")


class Case(unittest.TestCase):
    def refused(self, heap, goal, rule, about):
        with self.assertRaises(NoRule, msg=repr((heap, goal, rule, about))[:200]):
            needs(heap, goal, rule, about)

    def told(self, heap, goal, rule, about, expected):
        """What is told is of the right kinds, and is told again behind a change of it."""
        for turn in range(2):
            heap_before = list(heap)
            rows = needs(heap, goal, rule, about)
            self.assertEqual(rows, expected)
            self.assertEqual(heap, heap_before)
            self.assertIs(type(rows), list)
            lists = [rows]
            for row in rows:
                self.assertIs(type(row), tuple)
                self.assertIs(type(row[0]), list)
                lists.append(row[0])
            self.assertEqual(len({id(each) for each in lists + [heap]}), len(lists) + 1)
            for each in lists:
                each.append("changed")


class ByTheGoal(Case):
    def test_both(self):
        for heap in ([], ["c"], ["c", AB, "c"]):
            self.told(heap, AB, "both", AB, [(heap, "a"), (heap, "b")])

    def test_first_and_second(self):
        for heap in ([], ["c"], ["c", OR, "c"]):
            self.told(heap, OR, "first", OR, [(heap, "a")])
            self.told(heap, OR, "second", OR, [(heap, "b")])

    def test_assume(self):
        for heap in ([], ["c"], ["c", GIVES, "a"]):
            self.told(heap, GIVES, "assume", GIVES, [(heap + ["a"], "b")])
        self.told([], TRUTH, "assume", TRUTH, [([NOUGHT], NOUGHT)])

    def test_greater_sides(self):
        self.told(["c"], ("and", OR, GIVES), "both", ("and", OR, GIVES), [(["c"], OR), (["c"], GIVES)])
        self.told(["c"], ("or", AB, GIVES), "second", ("or", AB, GIVES), [(["c"], GIVES)])
        self.told(["c"], ("gives", AB, OR), "assume", ("gives", AB, OR), [(["c", AB], OR)])

    def test_only_where_the_goal_has_the_sign(self):
        fitting = {"both": AB, "first": OR, "second": OR, "assume": GIVES}
        for rule, fit in fitting.items():
            for goal in ("a", NOUGHT, AB, OR, GIVES):
                if goal != fit:
                    self.refused([fit, goal], goal, rule, goal)

    def test_only_about_the_goal(self):
        fitting = {"both": AB, "first": OR, "second": OR, "assume": GIVES}
        for rule, goal in fitting.items():
            sign, one, other = goal
            for about in ("a", "b", "c", NOUGHT, (sign, "b", "a"), (sign, "a", "c"), list(goal), rule):
                self.refused(["a", "b", "c", NOUGHT, (sign, "b", "a")], goal, rule, about)
            self.refused([goal], (sign, "a", "c"), rule, goal)


class WithoutNeeds(Case):
    def test_here(self):
        for heap in (["a"], ["a", "a"], [AB, "a"], [AB, "b", "a", NOUGHT, "a"]):
            self.told(heap, "a", "here", "a", [])

    def test_here_each_letter(self):
        for letter in LETTERS:
            self.told(["b", letter], letter, "here", letter, [])

    def test_here_is_refused(self):
        self.refused([], "a", "here", "a")
        self.refused(["b"], "a", "here", "a")
        self.refused(["a"], "b", "here", "a")
        self.refused(["a"], "b", "here", "b")
        self.refused(["a", "b"], "a", "here", "b")
        self.refused([AB], "a", "here", "a")
        self.refused(["a"], ("or", "a", "b"), "here", "a")

    def test_here_is_about_letters_alone(self):
        for statement in (NOUGHT, AB, OR, GIVES, TRUTH):
            self.refused([statement], statement, "here", statement)

    def test_void(self):
        for heap in ([NOUGHT], [NOUGHT, NOUGHT], ["a", NOUGHT], ["a", NOUGHT, AB]):
            for goal in ("a", "b", NOUGHT, AB):
                self.told(heap, goal, "void", NOUGHT, [])

    def test_void_is_refused(self):
        self.refused([], NOUGHT, "void", NOUGHT)
        self.refused(["a"], "a", "void", NOUGHT)
        self.refused(["a", NOUGHT], "a", "void", "a")
        self.refused([NOUGHT, TRUTH], "a", "void", TRUTH)
        self.refused([AB, ("and", NOUGHT, "a")], "a", "void", NOUGHT)
        self.refused(["noughty"], "noughty", "void", "noughty")


class ByTheHeap(Case):
    def check_places(self, rule, about, expected):
        """expected(rest, goal) tells the needs; the statement stands once, twice, and at any place."""
        others = ["a", "c", OR, "a"]
        for goal in ("e", AB, about):
            for at in range(len(others) + 1):
                heap = others[:at] + [about] + others[at:]
                self.told(heap, goal, rule, about, expected(others, goal))
                for second in range(at + 1, len(heap) + 1):
                    twice = heap[:second] + [about] + heap[second:]
                    rest = heap[:at] + heap[at + 1:]
                    rest.insert(second - 1, about)
                    self.told(twice, goal, rule, about, expected(rest, goal))

    def test_open(self):
        self.told([AB], "e", "open", AB, [(["a", "b"], "e")])
        self.check_places("open", AB, lambda rest, goal: [(rest + ["a", "b"], goal)])

    def test_cases(self):
        about = ("or", "b", GIVES)
        self.told([about], "e", "cases", about, [(["b"], "e"), ([GIVES], "e")])
        self.check_places("cases", about, lambda rest, goal: [(rest + ["b"], goal), (rest + [GIVES], goal)])

    def test_use(self):
        self.told([GIVES, "a"], "e", "use", GIVES, [(["a", "b"], "e")])
        self.told(["a", GIVES], "e", "use", GIVES, [(["a", "b"], "e")])
        self.check_places("use", GIVES, lambda rest, goal: [(rest + ["b"], goal)])

    def test_idle(self):
        self.told([IDLE], "e", "idle", IDLE, [([], "e")])
        self.told([TRUTH], "e", "idle", TRUTH, [([], "e")])
        self.check_places("idle", IDLE, lambda rest, goal: [(rest, goal)])

    def test_curry(self):
        more = ("gives", "a", ("gives", "b", "d"))
        self.told([CURRY], "e", "curry", CURRY, [([more], "e")])
        self.check_places("curry", CURRY, lambda rest, goal: [(rest + [more], goal)])

    def test_split(self):
        more = [("gives", "a", "d"), ("gives", "b", "d")]
        self.told([SPLIT], "e", "split", SPLIT, [(more, "e")])
        self.check_places("split", SPLIT, lambda rest, goal: [(rest + more, goal)])

    def test_try(self):
        def rows(rest, goal):
            return [(rest + [("gives", "b", "d")], GIVES), (rest + ["d"], goal)]

        self.told([TRY], "e", "try", TRY, rows([], "e"))
        self.check_places("try", TRY, rows)

    def test_try_with_noughts(self):
        about = ("gives", TRUTH, NOUGHT)
        self.told([about], "e", "try", about, [([TRUTH], TRUTH), ([NOUGHT], "e")])

    def test_use_needs_the_letter_in_the_heap(self):
        self.refused([GIVES], "e", "use", GIVES)
        self.refused([GIVES, "b", ("and", "a", "c"), NOUGHT], "a", "use", GIVES)
        self.refused([GIVES, "aa"], "e", "use", GIVES)
        self.refused([("gives", "a", "a")], "a", "use", ("gives", "a", "a"))

    def test_use_is_about_letters_alone(self):
        self.refused([IDLE, NOUGHT], "e", "use", IDLE)
        for condition in (AB, OR, GIVES):
            self.refused([("gives", condition, "d"), condition, "a", "b"], "e", "use", ("gives", condition, "d"))

    def test_only_statements_of_the_form(self):
        fitting = {
            "open": [AB], "cases": [OR], "use": [GIVES], "idle": [IDLE, TRUTH],
            "curry": [CURRY], "split": [SPLIT], "try": [TRY],
        }
        forms = ["a", NOUGHT, AB, OR, GIVES, IDLE, TRUTH, CURRY, SPLIT, TRY]
        for rule, fits in fitting.items():
            for about in forms:
                if about in fits:
                    needs(["a", about], "e", rule, about)
                else:
                    self.refused(["a", about], "e", rule, about)
                    self.refused(["a", about], about, rule, about)

    def test_only_statements_of_the_heap(self):
        fitting = {
            "open": AB, "cases": OR, "use": GIVES, "idle": IDLE, "curry": CURRY, "split": SPLIT, "try": TRY,
        }
        for rule, about in fitting.items():
            self.refused([], about, rule, about)
            self.refused(["a", "b", ("and", about, about)], about, rule, about)
            self.refused(["a", about[:2] + ("e",)], "a", rule, about)


class AnyThing(Case):
    ROWS = [
        (["a", NOUGHT, AB, OR, GIVES, IDLE, CURRY, SPLIT, TRY], goal) for goal in ("a", AB, OR, GIVES)
    ]

    def test_as_rule(self):
        words = ["", "Both", "both ", " both", "and", "or", "gives", "nought", "a", "third", "opens", "TRY", "needs"]
        for heap, goal in self.ROWS:
            for rule in words + ODD_THINGS:
                for about in heap + [goal]:
                    self.refused(heap, goal, rule, about)
        self.refused(["a"], "a", ["here"], "a")
        self.refused(["a"], "a", ("here",), "a")

    def test_as_what_it_is_about(self):
        for heap, goal in self.ROWS:
            for rule in RULES:
                for about in ODD_THINGS:
                    self.refused(heap, goal, rule, about)

    def test_as_both(self):
        for thing in ODD_THINGS:
            self.refused(["a"], "a", thing, thing)

    def test_lists_are_no_statements(self):
        self.refused([AB], "a", "open", list(AB))
        self.refused([CURRY], "a", "curry", ("gives", list(AB), "d"))
        self.refused([], AB, "both", list(AB))
        self.refused(["a"], "a", "here", ["a"])

    def test_the_refusal_is_caught_as_its_bases(self):
        for base in (NoRule, SayError, ValueError):
            with self.assertRaises(base):
                needs([], "a", "here", "a")


def fits(heap, goal, rule, about):
    """Whether a rule fits, said once more by forms."""
    if rule in GOAL_RULES:
        sign = {"both": "and", "first": "or", "second": "or", "assume": "gives"}[rule]
        return about == goal and goal[0] == sign
    if about not in heap:
        return False
    match about:
        case ("and", _, _):
            return rule == "open"
        case ("or", _, _):
            return rule == "cases"
        case ("gives", (sign, _, _), _):
            return rule == {"and": "curry", "or": "split", "gives": "try"}[sign]
        case ("gives", "nought", _):
            return rule == "idle"
        case ("gives", letter, _):
            return rule == "use" and letter in heap
        case "nought":
            return rule == "void"
    return rule == "here" and about == goal


def true_at(statement, true_letters):
    if isinstance(statement, str):
        return statement in true_letters
    sign, one, other = statement
    if sign == "and":
        return true_at(one, true_letters) and true_at(other, true_letters)
    if sign == "or":
        return true_at(one, true_letters) or true_at(other, true_letters)
    return not true_at(one, true_letters) or true_at(other, true_letters)


def row_true(heap, goal, true_letters):
    return true_at(goal, true_letters) or not all(true_at(each, true_letters) for each in heap)


class ManyRows(Case):
    def rows(self):
        small = small_statements(1, ["a", NOUGHT])
        greater = small_statements(2, ["a", "b"])[::3]
        for goal in small:
            for statement in greater + small:
                yield [statement], goal
                yield ["a", statement], goal
                yield [statement, NOUGHT, statement], goal
        for one, other in itertools.product(greater[::2], greater[::5]):
            yield [one, other], one

    def test_each_rule_fits_just_where_it_must_and_its_needs_are_lesser(self):
        for heap, goal in self.rows():
            for rule in RULES:
                for about in heap + [goal]:
                    if not fits(heap, goal, rule, about):
                        self.refused(heap, goal, rule, about)
                        continue
                    for more, wanted in needs(heap, goal, rule, about):
                        self.assertIs(lesser(more + [wanted], heap + [goal]), True, (heap, goal, rule, about))

    def test_where_the_needs_hold_the_row_holds(self):
        for heap, goal in self.rows():
            for rule in RULES:
                for about in heap + [goal]:
                    if fits(heap, goal, rule, about):
                        rows = needs(heap, goal, rule, about)
                        for true_letters in ("", "a", "b", "ab"):
                            if all(row_true(more, wanted, true_letters) for more, wanted in rows):
                                self.assertTrue(row_true(heap, goal, true_letters), (heap, goal, rule, about))

    def test_lesser_needs_of_greater_statements(self):
        big = ("and", ("or", "a", GIVES), ("gives", "b", OR))
        abouts = {
            "open": big, "cases": ("or", big, TRY), "use": ("gives", "a", big), "idle": ("gives", NOUGHT, "a"),
            "curry": ("gives", ("and", big, "a"), TRY), "split": ("gives", ("or", big, big), big),
            "try": ("gives", ("gives", big, TRY), big),
        }
        for rule, about in abouts.items():
            heap = ["a", about, big]
            for goal in ("a", big, about):
                for more, wanted in needs(heap, goal, rule, about):
                    self.assertIs(lesser(more + [wanted], heap + [goal]), True, rule)


class Keeping(Case):
    def test_a_heap_changed_later_changes_nothing_told(self):
        heap = ["c", OR]
        rows = needs(heap, AB, "both", AB)
        opened = needs(heap, "a", "cases", OR)
        heap.clear()
        self.assertEqual(rows, [(["c", OR], "a"), (["c", OR], "b")])
        self.assertEqual(opened, [(["c", "a"], "a"), (["c", "b"], "a")])

    def test_a_changed_heap_is_seen_anew(self):
        heap = ["a"]
        self.assertEqual(needs(heap, "a", "here", "a"), [])
        heap[0] = "b"
        self.refused(heap, "a", "here", "a")

    def test_the_handed_heap_is_never_told(self):
        heap = ["c"]
        for rule, goal in (("both", AB), ("first", OR), ("second", OR), ("assume", GIVES)):
            for more, wanted in needs(heap, goal, rule, goal):
                more.append("d")
        self.assertEqual(heap, ["c"])

    def test_what_was_told_is_handed_in_whatever_its_size(self):
        step = nested("a", 10, lambda part: ("gives", part, NOUGHT))
        deep, again = "a", "a"
        for turn in range(300):
            deep, again = put(deep, "a", step), put(again, "a", step)
        rows = needs(["c", ("or", deep, "b")], "b", "cases", ("or", again, "b"))
        self.assertEqual([len(more) for more, wanted in rows], [2, 2])
        self.assertEqual(tuples(rows[0][0][1]), 3000)
        with self.assertRaises(NoRule):
            needs([deep], "b", "cases", again)
        rows = needs([], ("and", deep, "a"), "both", ("and", again, "a"))
        self.assertEqual(tuples(rows[0][1]), 3000)
        with self.assertRaises(NoRule):
            needs([], ("and", deep, "a"), "both", ("and", again, "b"))


if __name__ == "__main__":
    unittest.main()
