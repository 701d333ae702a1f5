"""The package keeps to the small part of Python that it is written in: what of it a test can see."""

import ast
import builtins
import re
import unittest
from pathlib import Path

PACKAGE = Path(__file__).resolve().parent.parent / "coinroll"

OWN_NAMES = set("""
    len range enumerate zip min max sum abs sorted reversed int str bool list tuple dict set frozenset
    isinstance ord repr any all divmod Exception ValueError TypeError KeyError IndexError LookupError
    ZeroDivisionError ArithmeticError OverflowError RuntimeError NotImplementedError AttributeError
    StopIteration
""".split())

OUT_WORDS = re.compile(
    r"\b(type|typing|typing_extensions|enum|Enum|IntEnum|StrEnum|Flag|IntFlag|Generic|Protocol|ABC|ABCMeta"
    r"|namedtuple|NamedTuple|TypedDict|TYPE_CHECKING|abstractmethod)\b|dataclass|overload|contextmanager"
)

OUT_NODES = (
    ast.Import, ast.With, ast.Match, ast.Delete, ast.Global, ast.Nonlocal, ast.Assert, ast.Yield, ast.YieldFrom,
    ast.AsyncFunctionDef, ast.Await, ast.SetComp, ast.DictComp, ast.GeneratorExp, ast.NamedExpr, ast.Starred, ast.Div,
)

METHODS = set("""
    append clear copy count endswith extend find get index insert isalnum isalpha isdigit islower isspace
    isupper items join keys ljust lower lstrip partition pop remove replace reverse rfind rjust rpartition
    rsplit rstrip setdefault split splitlines startswith strip update upper values zfill bit_length
""".split())

PYTHON_METHODS = {name for kind in (str, int, list, tuple, dict, set, bytes) for name in dir(kind)}


def files():
    return sorted(PACKAGE.rglob("*.py"))


def trees():
    return [(path.name, ast.parse(path.read_text("ascii"))) for path in files()]


def nodes():
    return [(name, node) for name, tree in trees() for node in ast.walk(tree)]


class TestFiles(unittest.TestCase):
    def test_the_folder_holds_the_package_alone(self):
        for path in PACKAGE.iterdir():
            if path.name != "__pycache__":
                self.assertRegex(path.name, r"^([a-z][a-z0-9_]*|__init__|__main__)\.py$")
        self.assertTrue((PACKAGE / "__init__.py").is_file())

    def test_signs_and_sizes(self):
        for path in files():
            data = path.read_bytes()
            self.assertTrue(all(sign == 10 or 32 <= sign <= 126 for sign in data), path.name)
            lines = data.decode("ascii").split("\n")
            self.assertLessEqual(len(lines), 400, path.name)
            self.assertLessEqual(max(len(line) for line in lines), 120, path.name)

    def test_words_that_stand_nowhere(self):
        for path in files():
            self.assertIsNone(OUT_WORDS.search(path.read_text("ascii")), path.name)


class TestForms(unittest.TestCase):
    def test_no_form_that_is_out(self):
        for name, node in nodes():
            self.assertNotIsInstance(node, OUT_NODES, (name, getattr(node, "lineno", 0)))
            if isinstance(node, ast.Constant):
                self.assertNotIsInstance(node.value, (float, complex, bytes), (name, node.lineno))

    def test_functions_are_short_and_plain(self):
        for name, node in nodes():
            if isinstance(node, ast.FunctionDef):
                self.assertLessEqual(node.end_lineno - node.lineno + 1, 40, (name, node.name))
                self.assertEqual(node.decorator_list, [], (name, node.name))
                self.assertIsNone(node.args.vararg or node.args.kwarg, (name, node.name))
                self.assertEqual(node.args.kwonlyargs, [], (name, node.name))

    def test_imports_draw_on_the_package_alone(self):
        for name, node in nodes():
            if isinstance(node, ast.ImportFrom):
                self.assertEqual(node.level, 0, name)
                self.assertRegex(node.module, r"^coinroll\.[a-z]", name)

    def test_names_are_plain(self):
        for name, node in nodes():
            if isinstance(node, ast.Name) and hasattr(builtins, node.id):
                self.assertIn(node.id, OWN_NAMES, (name, node.lineno))
                self.assertNotIsInstance(node.ctx, ast.Store, (name, node.lineno))
            if isinstance(node, ast.Name):
                self.assertFalse(node.id.startswith("_"), (name, node.lineno))
            if isinstance(node, ast.arg):
                self.assertFalse(node.arg.startswith("_") or hasattr(builtins, node.arg), (name, node.lineno))
            if isinstance(node, ast.Attribute) and node.attr in PYTHON_METHODS:
                self.assertIn(node.attr, METHODS | {"add", "discard", "title", "__init__"}, (name, node.lineno))


STATEMENTS = (
    ast.FunctionDef, ast.ClassDef, ast.Assign, ast.AugAssign, ast.If, ast.While, ast.For, ast.Return, ast.Break,
    ast.Continue, ast.Pass, ast.Raise, ast.Try, ast.Expr, ast.ImportFrom,
)

WALKED = {"zip", "enumerate", "reversed", "range"}
WALKERS = {"list", "tuple", "dict", "sorted", "sum", "any", "all", "enumerate", "zip", "min", "max"}
KEYWORDS = {"sorted": {"key", "reverse"}, "min": {"key", "default"}, "max": {"key", "default"}, "sum": {"start"},
            "enumerate": {"start"}, "zip": {"strict"}}


def is_call_of(node, names):
    return isinstance(node, ast.Call) and isinstance(node.func, ast.Name) and node.func.id in names


def is_plain_value(node):
    if isinstance(node, (ast.Tuple, ast.List)):
        return all(is_plain_value(part) for part in node.elts)
    return isinstance(node, ast.Constant)


def bound_in(function):
    """The parameters and locals of a function, those of functions within it too."""
    for node in ast.walk(function):
        if isinstance(node, ast.arg):
            yield node.arg
        elif isinstance(node, ast.Name) and isinstance(node.ctx, ast.Store):
            yield node.id


def top_names(tree):
    names = []
    for node in tree.body:
        if isinstance(node, ast.ImportFrom):
            names += [alias.asname or alias.name for alias in node.names]
        elif isinstance(node, (ast.FunctionDef, ast.ClassDef)):
            names.append(node.name)
        elif isinstance(node, ast.Assign):
            names += [target.id for target in node.targets]
    return names


def own_names(tree):
    return {name for node in tree.body if not isinstance(node, ast.ImportFrom)
            for name in top_names(ast.Module([node], []))}


class TestTops(unittest.TestCase):
    def test_only_what_may_stand_at_the_top(self):
        for name, tree in trees():
            self.assertIsInstance(ast.get_docstring(tree), str, name)
            for node in tree.body[1:]:
                self.assertIsInstance(node, (ast.ImportFrom, ast.FunctionDef, ast.ClassDef, ast.Assign), name)
                if isinstance(node, ast.Assign):
                    self.assertTrue(is_plain_value(node.value), (name, node.lineno))

    def test_each_name_is_bound_once(self):
        for name, tree in trees():
            names = top_names(tree)
            self.assertEqual(len(names), len(set(names)), name)

    def test_imports_are_defined_where_they_are_drawn_from_and_are_used(self):
        own = {name: own_names(tree) for name, tree in trees()}
        for name, tree in trees():
            used = {node.id for node in ast.walk(tree) if isinstance(node, ast.Name)}
            for node in tree.body:
                if isinstance(node, ast.ImportFrom):
                    for alias in node.names:
                        self.assertIn(alias.name, own[node.module.split(".")[1] + ".py"], name)
                        self.assertIsNone(alias.asname, name)
                        self.assertIn(alias.name, used, name)

    def test_no_two_files_draw_from_one_another(self):
        drawn = {}
        for name, tree in trees():
            drawn[name] = {node.module.split(".")[1] + ".py" for node in tree.body if isinstance(node, ast.ImportFrom)}
        while drawn:
            free = [name for name in drawn if not drawn[name] & set(drawn)]
            self.assertTrue(free, sorted(drawn))
            for name in free:
                drawn.pop(name)

    def test_locals_are_called_like_no_class_import_or_top_name(self):
        for name, tree in trees():
            taken = set(top_names(tree))
            for node in ast.walk(tree):
                if isinstance(node, (ast.FunctionDef, ast.Lambda)):
                    self.assertEqual(taken & set(bound_in(node)), set(), (name, node.lineno))


class TestClasses(unittest.TestCase):
    def classes(self):
        return [(name, node) for name, node in nodes() if isinstance(node, ast.ClassDef)]

    def test_plain_classes(self):
        for name, node in self.classes():
            self.assertLessEqual(len(node.bases), 1, (name, node.name))
            self.assertEqual((node.keywords, node.decorator_list), ([], []), (name, node.name))
            for part in node.body:
                self.assertIsInstance(part, (ast.FunctionDef, ast.Pass), (name, node.name))
            methods = [part.name for part in node.body if isinstance(part, ast.FunctionDef)]
            self.assertEqual(len(methods), len(set(methods)), (name, node.name))
            self.assertEqual([word for word in methods if word.startswith("_") and word != "__init__"], [], name)

    def test_no_name_is_a_method_here_and_a_value_there(self):
        methods = {part.name for name, node in self.classes() for part in node.body if isinstance(part, ast.FunctionDef)}
        values = {node.attr for name, node in nodes() if isinstance(node, ast.Attribute)
                  and isinstance(node.ctx, ast.Store)}
        self.assertEqual(methods & values, set())
        self.assertEqual((methods | values) & (PYTHON_METHODS - {"__init__"}), set())


class TestSteps(unittest.TestCase):
    def test_statements(self):
        for name, node in nodes():
            if isinstance(node, ast.stmt):
                self.assertIsInstance(node, STATEMENTS, (name, node.lineno))
            if isinstance(node, ast.Assign):
                self.assertEqual(len(node.targets), 1, (name, node.lineno))
                self.assertNotIsInstance(node.targets[0], (ast.Tuple, ast.List), (name, node.lineno))
            if isinstance(node, (ast.For, ast.While)):
                self.assertEqual(node.orelse, [], (name, node.lineno))
            if isinstance(node, ast.Try):
                self.assertEqual(node.finalbody, [], (name, node.lineno))
            if isinstance(node, ast.Expr) and not isinstance(node.value, ast.Call):
                self.assertEqual(node.value.lineno, 1, (name, node.lineno))

    def test_only_refusals_of_the_program_are_taken(self):
        for name, node in nodes():
            if isinstance(node, ast.ExceptHandler):
                self.assertIsInstance(node.type, ast.Name, (name, node.lineno))
                self.assertNotIn(node.type.id, dir(builtins), (name, node.lineno))

    def test_expressions(self):
        for name, node in nodes():
            place = (name, getattr(node, "lineno", 0))
            if isinstance(node, ast.ListComp):
                self.assertEqual(len(node.generators), 1, place)
                self.assertLessEqual(len(node.generators[0].ifs), 1, place)
            if isinstance(node, ast.FormattedValue):
                self.assertIsInstance(node.value, ast.Name, place)
                self.assertIsNone(node.format_spec, place)
            if isinstance(node, ast.Compare):
                for operator, other in zip(node.ops, node.comparators):
                    if isinstance(operator, (ast.Is, ast.IsNot)):
                        self.assertIn(ast.unparse(other), ("None", "True", "False"), place)
            if isinstance(node, ast.Constant) and isinstance(node.value, str):
                self.assertNotIn("%", node.value, place)
            self.assertNotIsInstance(node, (ast.Pow, ast.AnnAssign, ast.Set), place)
            self.assertIsNone(getattr(node, "annotation", None) or getattr(node, "returns", None), place)

    def test_keywords(self):
        for name, node in nodes():
            if isinstance(node, ast.Call) and node.keywords:
                self.assertIsInstance(node.func, ast.Name, (name, node.lineno))
                self.assertLessEqual({word.arg for word in node.keywords}, KEYWORDS[node.func.id], (name, node.lineno))

    def test_what_is_walked_is_walked_on_the_spot(self):
        for name, tree in trees():
            walked = set()
            for node in ast.walk(tree):
                if isinstance(node, (ast.For, ast.comprehension)):
                    walked.add(node.iter)
                elif is_call_of(node, WALKERS) and node.args:
                    walked.add(node.args[0])
                elif isinstance(node, ast.Call) and isinstance(node.func, ast.Attribute) and node.func.attr == "join":
                    walked.add(node.args[0])
            for node in ast.walk(tree):
                method = isinstance(node, ast.Call) and isinstance(node.func, ast.Attribute) and node.func.attr
                if is_call_of(node, WALKED) or method in ("items", "keys", "values"):
                    self.assertIn(node, walked, (name, node.lineno))

    def test_sets_stand_within_sorted_or_len(self):
        for name, tree in trees():
            within = {node.args[0] for node in ast.walk(tree) if is_call_of(node, {"sorted", "len"})}
            for node in ast.walk(tree):
                if is_call_of(node, {"set", "frozenset"}):
                    self.assertIn(node, within, (name, node.lineno))

    def test_pythons_own_are_called_not_kept(self):
        for name, tree in trees():
            called = {node.func for node in ast.walk(tree) if isinstance(node, ast.Call)}
            kinds = set()
            for node in ast.walk(tree):
                if is_call_of(node, {"isinstance"}):
                    kinds |= set(ast.walk(node.args[1]))
                elif isinstance(node, ast.ClassDef):
                    kinds |= set(node.bases)
            for node in ast.walk(tree):
                if isinstance(node, ast.Name) and hasattr(builtins, node.id):
                    self.assertIn(node, called | kinds, (name, node.lineno))


if __name__ == "__main__":
    unittest.main()
