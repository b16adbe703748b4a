"""Those rules of LANGUAGE.md that are easily seen in the package's files."""

import ast
import builtins
import pathlib
import re
import unittest

import inkroot

FOLDER = pathlib.Path(inkroot.__file__).parent
FILES = sorted(path for path in FOLDER.iterdir() if path.suffix == ".py")
TREES = {path.name: ast.parse(path.read_text()) for path in FILES}
TWO_UNDERSCORES = {"__init__", "__eq__", "__repr__", "__str__", "__len__"}
BUILT_IN = set(
    "len range enumerate zip min max sum abs sorted reversed int str bool bytes list tuple dict set frozenset"
    " isinstance ord repr any all divmod Exception ValueError TypeError KeyError IndexError LookupError"
    " ZeroDivisionError ArithmeticError OverflowError RuntimeError NotImplementedError AttributeError"
    " StopIteration".split()
)
METHODS = set(
    "append clear copy count endswith extend find get index insert isalnum isalpha isdigit islower isspace isupper"
    " items join keys ljust lower lstrip partition pop remove replace reverse rfind rjust rpartition rsplit rstrip"
    " setdefault split splitlines startswith strip update upper values zfill bit_length".split()
)
WORDS = re.compile(
    r"\b(type|typing|typing_extensions|enum|Enum|IntEnum|StrEnum|Flag|IntFlag|Generic|Protocol|ABC|ABCMeta"
    r"|namedtuple|NamedTuple|TypedDict|TYPE_CHECKING|abstractmethod)\b|dataclass|overload|contextmanager"
)
NOT_THERE = (
    ast.With, ast.Match, ast.Global, ast.Nonlocal, ast.Yield, ast.YieldFrom, ast.Await, ast.AsyncFunctionDef,
    ast.AsyncFor, ast.AsyncWith, ast.GeneratorExp, ast.NamedExpr, ast.Div, ast.MatMult, ast.Import,
)


def walked():
    """All nodes of all files, each with its file's name."""
    for name, tree in TREES.items():
        for node in ast.walk(tree):
            yield name, node


def given_names(tree):
    """The parameters, locals and defs within defs of a file."""
    for def_node in ast.walk(tree):
        if isinstance(def_node, (ast.FunctionDef, ast.Lambda)):
            for node in ast.walk(def_node):
                if isinstance(node, ast.arg):
                    yield node.arg
                elif isinstance(node, ast.Name) and not isinstance(node.ctx, ast.Load):
                    yield node.id


class Files(unittest.TestCase):
    def test_nothing_else_lies_in_the_package(self):
        others = [path.name for path in FOLDER.iterdir() if path not in FILES and path.name != "__pycache__"]
        self.assertEqual([], others)
        self.assertIn("__init__.py", TREES)
        for name in TREES:
            self.assertRegex(name, r"^[a-z0-9_]+\.py$")

    def test_sizes_and_signs(self):
        for path in FILES:
            rows = path.read_text().split("\n")
            self.assertLessEqual(len(rows), 400, path.name)
            for number, row in enumerate(rows, start=1):
                self.assertRegex(row, r"^[ -~]{0,120}$", f"{path.name}:{number}")
                self.assertNotRegex(row, WORDS, f"{path.name}:{number}")

    def test_functions_are_short(self):
        for name, node in walked():
            if isinstance(node, ast.FunctionDef):
                self.assertLessEqual(node.end_lineno - node.lineno + 1, 40, f"{name}: {node.name}")


class Rows(unittest.TestCase):
    def test_forms_that_are_not_used(self):
        for name, node in walked():
            self.assertNotIsInstance(node, NOT_THERE, f"{name}:{getattr(node, 'lineno', '')}")
            if isinstance(node, ast.Constant):
                self.assertNotIsInstance(node.value, (float, complex))
                if isinstance(node.value, str):
                    self.assertNotIn("%", node.value, f"{name}:{node.lineno}")
            if isinstance(node, ast.Compare):
                for sign, other in zip(node.ops, node.comparators):
                    if isinstance(sign, (ast.Is, ast.IsNot)):
                        self.assertIn(getattr(other, "value", ""), (None, True, False), f"{name}:{node.lineno}")
            if isinstance(node, (ast.For, ast.While)):
                self.assertEqual([], node.orelse, f"{name}:{node.lineno}")
            if isinstance(node, (ast.FunctionDef, ast.ClassDef)):
                self.assertEqual([], node.decorator_list, f"{name}:{node.lineno}")

    def test_imports_are_the_package_s_own_and_made_once(self):
        drawn = {name: set() for name in TREES}
        for name, node in walked():
            if isinstance(node, ast.ImportFrom) and node.module != "__future__":
                self.assertEqual(0, node.level)
                self.assertRegex(node.module, r"^inkroot\.[a-z]+$")
                self.assertNotIn("*", [alias.name for alias in node.names])
                drawn[name] |= {node.module.split(".")[1] + ".py", "__init__.py"}
        self.assertEqual(set(), drawn["__init__.py"])
        for start in drawn:
            seen, left = set(), sorted(drawn[start])
            while left:
                name = left.pop()
                if name not in seen:
                    seen.add(name)
                    left += drawn[name]
            self.assertNotIn(start, seen)

    def test_names_are_plain(self):
        for name, tree in TREES.items():
            drawn = {alias.name for node in ast.walk(tree) if isinstance(node, ast.ImportFrom) for alias in node.names}
            classes = {node.name for node in tree.body if isinstance(node, ast.ClassDef)}
            for given in given_names(tree):
                self.assertNotIn(given, drawn | classes | set(dir(builtins)), name)
                self.assertFalse(given.startswith("_"), f"{name}: {given}")

    def test_python_s_own_names(self):
        for name, node in walked():
            if isinstance(node, ast.Name) and node.id in dir(builtins):
                self.assertIn(node.id, BUILT_IN, f"{name}:{node.lineno}")

    def test_no_name_is_both_a_method_and_a_value(self):
        methods, values = set(), set()
        for name, node in walked():
            if isinstance(node, ast.ClassDef):
                own = [row.name for row in node.body if isinstance(row, ast.FunctionDef)]
                self.assertEqual(len(set(own)), len(own), f"{name}: {node.name}")
                methods |= set(own)
            elif isinstance(node, ast.Attribute) and isinstance(node.ctx, ast.Store):
                values.add(node.attr)
        self.assertEqual(set(), methods & values)
        for name, node in walked():
            if isinstance(node, ast.Attribute):
                self.assertIn(node.attr, methods | values | METHODS, f"{name}:{node.lineno}")
        for method in methods:
            self.assertTrue(method in TWO_UNDERSCORES or not method.startswith("_"), method)


if __name__ == "__main__":
    unittest.main()
