"""The package keeps to the small part of Python that it is written in: what of it a test can see."""

import ast
import builtins
import re
import unittest
from pathlib import Path

PACKAGE = Path(__file__).resolve().parent.parent / "coinroll"

OWN_NAMES = set("""
    len range enumerate zip min max sum abs sorted reversed int str bool list tuple dict set frozenset
    isinstance ord repr any all divmod Exception ValueError TypeError KeyError IndexError LookupError
    ZeroDivisionError ArithmeticError OverflowError RuntimeError NotImplementedError AttributeError
    StopIteration
""".split())

OUT_WORDS = re.compile(
    r"\b(type|typing|typing_extensions|enum|Enum|IntEnum|StrEnum|Flag|IntFlag|Generic|Protocol|ABC|ABCMeta"
    r"|namedtuple|NamedTuple|TypedDict|TYPE_CHECKING|abstractmethod)\b|dataclass|overload|contextmanager"
)

OUT_NODES = (
    ast.Import, ast.With, ast.Match, ast.Delete, ast.Global, ast.Nonlocal, ast.Assert, ast.Yield, ast.YieldFrom,
    ast.AsyncFunctionDef, ast.Await, ast.SetComp, ast.DictComp, ast.GeneratorExp, ast.NamedExpr, ast.Starred, ast.Div,
)

METHODS = set("""
    append clear copy count endswith extend find get index insert isalnum isalpha isdigit islower isspace
    isupper items join keys ljust lower lstrip partition pop remove replace reverse rfind rjust rpartition
    rsplit rstrip setdefault split splitlines startswith strip update upper values zfill bit_length
""".split())

PYTHON_METHODS = {name for kind in (str, int, list, tuple, dict, set, bytes) for name in dir(kind)}


def files():
    return sorted(PACKAGE.rglob("*.py"))


def trees():
    return [(path.name, ast.parse(path.read_text("ascii"))) for path in files()]


def nodes():
    return [(name, node) for name, tree in trees() for node in ast.walk(tree)]


class TestFiles(unittest.TestCase):
    def test_the_folder_holds_the_package_alone(self):
        for path in PACKAGE.iterdir():
            if path.name != "__pycache__":
                self.assertRegex(path.name, r"^([a-z][a-z0-9_]*|__init__|__main__)\.py$")
        self.assertTrue((PACKAGE / "__init__.py").is_file())

    def test_signs_and_sizes(self):
        for path in files():
            data = path.read_bytes()
            self.assertTrue(all(sign == 10 or 32 <= sign <= 126 for sign in data), path.name)
            lines = data.decode("ascii").split("\n")
            self.assertLessEqual(len(lines), 400, path.name)
            self.assertLessEqual(max(len(line) for line in lines), 120, path.name)

    def test_words_that_stand_nowhere(self):
        for path in files():
            self.assertIsNone(OUT_WORDS.search(path.read_text("ascii")), path.name)


class TestForms(unittest.TestCase):
    def test_no_form_that_is_out(self):
        for name, node in nodes():
            self.assertNotIsInstance(node, OUT_NODES, (name, getattr(node, "lineno", 0)))
            if isinstance(node, ast.Constant):
                self.assertNotIsInstance(node.value, (float, complex, bytes), (name, node.lineno))

    def test_functions_are_short_and_plain(self):
        for name, node in nodes():
            if isinstance(node, ast.FunctionDef):
                self.assertLessEqual(node.end_lineno - node.lineno + 1, 40, (name, node.name))
                self.assertEqual(node.decorator_list, [], (name, node.name))
                self.assertIsNone(node.args.vararg or node.args.kwarg, (name, node.name))
                self.assertEqual(node.args.kwonlyargs, [], (name, node.name))

    def test_imports_draw_on_the_package_alone(self):
        for name, node in nodes():
            if isinstance(node, ast.ImportFrom):
                self.assertEqual(node.level, 0, name)
                self.assertRegex(node.module, r"^coinroll\.[a-z]", name)

    def test_names_are_plain(self):
        for name, node in nodes():
            if isinstance(node, ast.Name) and hasattr(builtins, node.id):
                self.assertIn(node.id, OWN_NAMES, (name, node.lineno))
                self.assertNotIsInstance(node.ctx, ast.Store, (name, node.lineno))
            if isinstance(node, ast.Name):
                self.assertFalse(node.id.startswith("_"), (name, node.lineno))
            if isinstance(node, ast.arg):
                self.assertFalse(node.arg.startswith("_") or hasattr(builtins, node.arg), (name, node.lineno))
            if isinstance(node, ast.Attribute) and node.attr in PYTHON_METHODS:
                self.assertIn(node.attr, METHODS | {"add", "discard", "title", "__init__"}, (name, node.lineno))


if __name__ == "__main__":
    unittest.main()
