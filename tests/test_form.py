"""The package's files keep to the small part of Python that they may use.

These checks see what can be seen in a file's tree: its files, signs, sizes, imports, statements and names.
They do not stand for every rule.
"""

import ast
import builtins
import re
import unittest
from pathlib import Path

PACKAGE = Path(__file__).resolve().parent.parent / "pourwright"

OWN_NAMES = set("""
    len range enumerate zip min max sum abs sorted reversed int str bool list tuple dict set frozenset isinstance
    ord repr any all divmod Exception ValueError TypeError KeyError IndexError LookupError ZeroDivisionError
    ArithmeticError OverflowError RuntimeError NotImplementedError AttributeError StopIteration
""".split())
OWN_METHODS = set("""
    append clear copy count endswith extend find get index insert isalnum isalpha isdigit islower isspace isupper
    items join keys ljust lower lstrip partition pop remove replace reverse rfind rjust rpartition rsplit rstrip
    setdefault split splitlines startswith strip update upper values zfill bit_length __init__
""".split())
SPECIAL_METHODS = {"__init__", "__eq__", "__repr__", "__str__", "__len__"}
FORBIDDEN_WORDS = (
    r"\b(type|typing|typing_extensions|enum|Enum|IntEnum|StrEnum|Flag|IntFlag|Generic|Protocol|ABC|ABCMeta"
    r"|namedtuple|NamedTuple|TypedDict|TYPE_CHECKING|abstractmethod)\b|dataclass|overload|contextmanager"
)
FORBIDDEN_NODES = (
    ast.With, ast.Match, ast.Delete, ast.Global, ast.Nonlocal, ast.Assert, ast.Yield, ast.YieldFrom, ast.Await,
    ast.AsyncFunctionDef, ast.AsyncFor, ast.AsyncWith, ast.Import, ast.Div, ast.MatMult, ast.SetComp,
    ast.DictComp, ast.GeneratorExp, ast.NamedExpr, ast.Starred, ast.AnnAssign,
)


def files():
    return sorted(PACKAGE.rglob("*.py"))


def nodes(kinds):
    for file in files():
        for node in ast.walk(ast.parse(file.read_text(encoding="utf-8"))):
            if isinstance(node, kinds):
                yield f"{file.name}:{getattr(node, 'lineno', 0)}", node


class TestFiles(unittest.TestCase):
    def test_only_plain_python_files_lie_in_the_package(self):
        self.assertTrue((PACKAGE / "__init__.py").is_file())
        for path in PACKAGE.rglob("*"):
            if "__pycache__" not in path.parts:
                self.assertRegex(path.name, r"\A([a-z][a-z0-9_]*|__init__|__main__)\.py\Z")
                self.assertNotIn(path.stem, vars(builtins), path.name)
                self.assertNotRegex(path.name, r"\A(tests?|testing|test_.*|site|conftest|.*customize)\.py\Z")

    def test_signs_and_sizes(self):
        for file in files():
            rows = file.read_bytes().decode("ascii").split("\n")
            self.assertLessEqual(len(rows), 401, file.name)
            for number, row in enumerate(rows, start=1):
                with self.subTest(file=file.name, row=number):
                    self.assertRegex(row, r"\A[ -~]{0,120}\Z")

    def test_words(self):
        for file in files():
            self.assertIsNone(re.search(FORBIDDEN_WORDS, file.read_text(encoding="utf-8")), file.name)


class TestTrees(unittest.TestCase):
    def test_imports(self):
        for where, node in nodes(ast.ImportFrom):
            self.assertEqual(node.level, 0, where)
            self.assertRegex(node.module, r"\Apourwright\.[a-z0-9_]+\Z", where)
            self.assertNotIn("*", [alias.name for alias in node.names], where)

    def test_statements_and_expressions(self):
        for where, node in nodes(FORBIDDEN_NODES):
            self.fail(f"{where}: {node.__class__.__name__}")
        for where, node in nodes((ast.For, ast.While, ast.Try)):
            self.assertFalse(getattr(node, "finalbody", []), where)
            self.assertFalse(node.orelse and not isinstance(node, ast.Try), where)
        for where, node in nodes(ast.ListComp):
            self.assertEqual(len(node.generators), 1, where)
            self.assertLessEqual(len(node.generators[0].ifs), 1, where)
        for where, node in nodes(ast.Assign):
            self.assertEqual(len(node.targets), 1, where)
        for where, node in nodes(ast.Constant):
            self.assertNotIsInstance(node.value, (float, complex, bytes), where)
            self.assertFalse(isinstance(node.value, str) and "%" in node.value, where)

    def test_functions(self):
        for where, node in nodes(ast.FunctionDef):
            self.assertLessEqual(node.end_lineno - node.lineno + 1, 40, where)
            self.assertEqual(node.decorator_list, [], where)
            told = node.args
            self.assertFalse(told.vararg or told.kwarg or told.kwonlyargs or told.posonlyargs, where)
            self.assertTrue(node.name in SPECIAL_METHODS or not node.name.startswith("_"), where)

    def test_classes(self):
        for where, node in nodes(ast.ClassDef):
            self.assertEqual((node.decorator_list, node.keywords), ([], []), where)
            self.assertLessEqual(len(node.bases), 1, where)
            for part in node.body:
                self.assertIsInstance(part, (ast.FunctionDef, ast.Pass), where)

    def test_names(self):
        for where, node in nodes(ast.Name):
            self.assertFalse(node.id.startswith("_"), where)
            if node.id in vars(builtins):
                self.assertIn(node.id, OWN_NAMES, where)
                self.assertIsInstance(node.ctx, ast.Load, where)
        for where, node in nodes(ast.arg):
            self.assertFalse(node.arg.startswith("_") or node.arg in vars(builtins), where)

    def test_methods_that_are_called(self):
        own = {node.name for where, node in nodes(ast.FunctionDef)}
        for where, node in nodes(ast.Call):
            if isinstance(node.func, ast.Attribute):
                self.assertIn(node.func.attr, OWN_METHODS | own, where)

    def test_no_name_is_a_method_and_a_value(self):
        methods = {part.name for where, node in nodes(ast.ClassDef) for part in node.body
                   if isinstance(part, ast.FunctionDef)}
        for where, node in nodes(ast.Attribute):
            if isinstance(node.ctx, ast.Store):
                self.assertNotIn(node.attr, methods, where)


if __name__ == "__main__":
    unittest.main()
