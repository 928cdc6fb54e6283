import importlib
import inspect
import unittest

FUNCTIONS = {
    "lesssay.statements": {
        "is_statement": ["thing"],
        "tuples": ["statement"],
        "letters": ["statement"],
        "put": ["statement", "letter", "other"],
    },
    "lesssay.heaps": {
        "weight": ["statement"],
        "lesser": ["one", "other"],
    },
    "lesssay.rules": {
        "needs": ["heap", "goal", "rule", "about"],
    },
    "lesssay.reasons": {
        "stands": ["heap", "goal", "reason"],
        "size": ["reason"],
        "height": ["reason"],
    },
    "lesssay.trees": {
        "is_tree": ["thing"],
        "worlds": ["tree"],
        "holds": ["tree", "statement"],
        "refutes": ["tree", "heap", "goal"],
    },
    "lesssay.settling": {
        "settled": ["heap", "goal"],
        "gives": ["one", "other"],
        "alike": ["one", "other"],
    },
    "lesssay.joining": {
        "joined": ["heap", "middle", "goal", "one", "other"],
        "once": ["heap", "twice", "goal", "reason"],
        "side": ["one", "other", "reason"],
    },
    "lesssay.shortening": {
        "short": ["statement"],
    },
    "lesssay.taking": {
        "left": ["statement", "gone"],
        "needed": ["statement", "gone"],
        "papers": ["statement", "gone"],
    },
    "lesssay.between": {
        "between": ["one", "other"],
    },
    "lesssay.ladder": {
        "rung": ["number", "letter"],
        "place": ["statement", "letter"],
    },
    "lesssay.settings": {
        "is_true": ["statement", "setting"],
        "twice": ["statement"],
        "always": ["statement"],
    },
    "lesssay.texts": {
        "show": ["statement"],
        "read": ["text"],
    },
}


class Interface(unittest.TestCase):
    def test_names_and_arguments(self):
        for module_name, functions in FUNCTIONS.items():
            module = importlib.import_module(module_name)
            for name, arguments in functions.items():
                signature = inspect.signature(getattr(module, name))
                self.assertEqual(list(signature.parameters), arguments, name)

    def test_the_desk(self):
        desk = importlib.import_module("lesssay.desk").Desk
        self.assertEqual(list(inspect.signature(desk).parameters), [])
        self.assertIn("say", vars(desk))
        self.assertEqual(list(inspect.signature(desk.say).parameters), ["self", "row"])


if __name__ == "__main__":
    unittest.main()
