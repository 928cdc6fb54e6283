"""The rules of the language that can be seen file by file; the others are read by eye."""

import ast
import pathlib
import re
import unittest

PACKAGE = pathlib.Path(__file__).resolve().parent.parent / "lesssay"
FILES = sorted(PACKAGE.glob("*.py"))
BARRED_WORDS = re.compile(
    r"\b(type|typing|typing_extensions|enum|Enum|IntEnum|StrEnum|Flag|IntFlag|Generic|Protocol|ABC|ABCMeta"
    r"|namedtuple|NamedTuple|TypedDict|TYPE_CHECKING|abstractmethod)\b|dataclass|overload|contextmanager"
)
BUILTINS = set(
    "len range enumerate zip min max sum abs sorted reversed int str bool bytes list tuple dict set isinstance ord "
    "repr any all divmod ValueError KeyError IndexError LookupError".split()
)
BARRED_NODES = (ast.Import, ast.Global, ast.AsyncFunctionDef, ast.Await, ast.Div)


class Form(unittest.TestCase):
    def test_the_folder_holds_only_plain_files(self):
        for path in PACKAGE.iterdir():
            if path.name != "__pycache__":
                self.assertRegex(path.name, r"\A[a-z][a-z0-9_]*\.py\Z|\A__init__\.py\Z")

    def test_signs_and_lengths(self):
        for path in FILES:
            text = path.read_text(encoding="utf-8")
            self.assertRegex(text, r"\A[\n -~]*\Z", path.name)
            self.assertNotIn("%", text, path.name)
            self.assertIsNone(BARRED_WORDS.search(text), path.name)
            lines = text.split("\n")
            self.assertLessEqual(len(lines), 400, path.name)
            self.assertLessEqual(max(len(line) for line in lines), 120, path.name)

    def test_functions_and_imports(self):
        for path in FILES:
            tree = ast.parse(path.read_text(encoding="utf-8"))
            for node in ast.walk(tree):
                where = (path.name, getattr(node, "lineno", 0))
                self.assertNotIsInstance(node, BARRED_NODES, where)
                if isinstance(node, ast.FunctionDef):
                    self.assertLessEqual(node.end_lineno - node.lineno + 1, 40, where)
                if isinstance(node, ast.ImportFrom):
                    self.assertEqual(node.level, 0, where)
                    self.assertRegex(node.module, r"\Alesssay\.[a-z_]+\Z", where)

    def test_names_are_own_or_allowed(self):
        for path in FILES:
            tree = ast.parse(path.read_text(encoding="utf-8"))
            nodes = list(ast.walk(tree))
            own = {node.name for node in nodes if isinstance(node, (ast.FunctionDef, ast.ClassDef))}
            own |= {node.arg for node in nodes if isinstance(node, ast.arg)}
            own |= {alias.name for node in nodes if isinstance(node, ast.ImportFrom) for alias in node.names}
            own |= {node.id for node in nodes if isinstance(node, ast.Name) and isinstance(node.ctx, ast.Store)}
            read = {node.id for node in nodes if isinstance(node, ast.Name)}
            self.assertEqual(sorted(read - own - BUILTINS), [], path.name)
            barred = [name for name in own - {"__init__"} if name.startswith("_") or name in BUILTINS]
            self.assertEqual(barred, [], path.name)


if __name__ == "__main__":
    unittest.main()
