"""The package's files keep to the small part of Python that they may use.

These checks see what can be seen in a file's tree: its files, signs, sizes, imports, statements and names.
They do not stand for every rule.
"""

import ast
import builtins
import re
import unittest
from pathlib import Path

PACKAGE = Path(__file__).resolve().parent.parent / "pourwright"

OWN_NAMES = set("""
    len range enumerate zip min max sum abs sorted reversed int str bool list tuple dict set frozenset isinstance
    ord repr any all divmod Exception ValueError TypeError KeyError IndexError LookupError ZeroDivisionError
    ArithmeticError OverflowError RuntimeError NotImplementedError AttributeError StopIteration
""".split())
OWN_METHODS = set("""
    append clear copy count endswith extend find get index insert isalnum isalpha isdigit islower isspace isupper
    items join keys ljust lower lstrip partition pop remove replace reverse rfind rjust rpartition rsplit rstrip
    setdefault split splitlines startswith strip update upper values zfill bit_length __init__
""".split())
SPECIAL_METHODS = {"__init__", "__eq__", "__repr__", "__str__", "__len__"}
FORBIDDEN_WORDS = (
    r"\b(type|typing|typing_extensions|enum|Enum|IntEnum|StrEnum|Flag|IntFlag|Generic|Protocol|ABC|ABCMeta"
    r"|namedtuple|NamedTuple|TypedDict|TYPE_CHECKING|abstractmethod)\b|dataclass|overload|contextmanager"
)
FORBIDDEN_NODES = (
    ast.With, ast.Match, ast.Delete, ast.Global, ast.Nonlocal, ast.Assert, ast.Yield, ast.YieldFrom, ast.Await,
    ast.AsyncFunctionDef, ast.AsyncFor, ast.AsyncWith, ast.Import, ast.Div, ast.MatMult, ast.SetComp,
    ast.DictComp, ast.GeneratorExp, ast.NamedExpr, ast.Starred, ast.AnnAssign,
)


def files():
    return sorted(PACKAGE.rglob("*.py"))


def nodes(kinds):
    for file in files():
        for node in ast.walk(ast.parse(file.read_text(encoding="utf-8"))):
            if isinstance(node, kinds):
                yield f"{file.name}:{getattr(node, 'lineno', 0)}", node


class TestFiles(unittest.TestCase):
    def test_only_plain_python_files_lie_in_the_package(self):
        self.assertTrue((PACKAGE / "__init__.py").is_file())
        for path in PACKAGE.rglob("*"):
            if "__pycache__" not in path.parts:
                self.assertRegex(path.name, r"\A([a-z][a-z0-9_]*|__init__|__main__)\.py\Z")
                self.assertNotIn(path.stem, vars(builtins), path.name)
                self.assertNotRegex(path.name, r"\A(tests?|testing|test_.*|site|conftest|.*customize)\.py\Z")

    def test_signs_and_sizes(self):
        for file in files():
            rows = file.read_bytes().decode("ascii").split("\n")
            self.assertLessEqual(len(rows), 401, file.name)
            for number, row in enumerate(rows, start=1):
                with self.subTest(file=file.name, row=number):
                    self.assertRegex(row, r"\A[ -~]{0,120}\Z")

    def test_words(self):
        for file in files():
            self.assertIsNone(re.search(FORBIDDEN_WORDS, file.read_text(encoding="utf-8")), file.name)


class TestTrees(unittest.TestCase):
    def test_imports(self):
        for where, node in nodes(ast.ImportFrom):
            self.assertEqual(node.level, 0, where)
            self.assertRegex(node.module, r"\Apourwright\.[a-z0-9_]+\Z", where)
            self.assertNotIn("*", [alias.name for alias in node.names], where)

    def test_statements_and_expressions(self):
        for where, node in nodes(FORBIDDEN_NODES):
            self.fail(f"{where}: {node.__class__.__name__}")
        for where, node in nodes((ast.For, ast.While, ast.Try)):
            self.assertFalse(getattr(node, "finalbody", []), where)
            self.assertFalse(node.orelse and not isinstance(node, ast.Try), where)
        for where, node in nodes(ast.ListComp):
            self.assertEqual(len(node.generators), 1, where)
            self.assertLessEqual(len(node.generators[0].ifs), 1, where)
        for where, node in nodes(ast.Assign):
            self.assertEqual(len(node.targets), 1, where)
        for where, node in nodes(ast.Constant):
            self.assertNotIsInstance(node.value, (float, complex, bytes), where)
            self.assertFalse(isinstance(node.value, str) and "%" in node.value, where)

    def test_functions(self):
        for where, node in nodes(ast.FunctionDef):
            self.assertLessEqual(node.end_lineno - node.lineno + 1, 40, where)
            self.assertEqual(node.decorator_list, [], where)
            told = node.args
            self.assertFalse(told.vararg or told.kwarg or told.kwonlyargs or told.posonlyargs, where)
            self.assertTrue(node.name in SPECIAL_METHODS or not node.name.startswith("_"), where)

    def test_classes(self):
        for where, node in nodes(ast.ClassDef):
            self.assertEqual((node.decorator_list, node.keywords), ([], []), where)
            self.assertLessEqual(len(node.bases), 1, where)
            for part in node.body:
                self.assertIsInstance(part, (ast.FunctionDef, ast.Pass), where)

    def test_names(self):
        for where, node in nodes(ast.Name):
            self.assertFalse(node.id.startswith("_"), where)
            if node.id in vars(builtins):
                self.assertIn(node.id, OWN_NAMES, where)
                self.assertIsInstance(node.ctx, ast.Load, where)
        for where, node in nodes(ast.arg):
            self.assertFalse(node.arg.startswith("_") or node.arg in vars(builtins), where)

    def test_methods_that_are_called(self):
        own = {node.name for where, node in nodes(ast.FunctionDef)}
        for where, node in nodes(ast.Call):
            if isinstance(node.func, ast.Attribute):
                self.assertIn(node.func.attr, OWN_METHODS | own, where)

    def test_no_name_is_a_method_and_a_value(self):
        methods = {part.name for where, node in nodes(ast.ClassDef) for part in node.body
                   if isinstance(part, ast.FunctionDef)}
        for where, node in nodes(ast.Attribute):
            if isinstance(node.ctx, ast.Store):
                self.assertNotIn(node.attr, methods, where)

    def test_is_stands_beside_none_true_and_false(self):
        for where, node in nodes(ast.Compare):
            for sign, other in zip(node.ops, node.comparators):
                if isinstance(sign, (ast.Is, ast.IsNot)):
                    self.assertIn(ast.unparse(other), ("None", "True", "False"), where)

    def test_a_statement_by_itself_is_a_call(self):
        for where, node in nodes((ast.FunctionDef, ast.ClassDef, ast.For, ast.While, ast.If)):
            for part in node.body:
                self.assertFalse(isinstance(part, ast.Expr) and not isinstance(part.value, ast.Call), where)

    def test_exponents_are_written(self):
        for where, node in nodes(ast.BinOp):
            if isinstance(node.op, ast.Pow):
                self.assertIsInstance(node.right, ast.Constant, where)
                self.assertIn(node.right.value, range(65), where)

    def test_keywords(self):
        told = {"sorted": ("key", "reverse"), "min": ("key", "default"), "max": ("key", "default"), "sum": ("start",),
                "enumerate": ("start",), "zip": ("strict",)}
        for where, node in nodes(ast.Call):
            if isinstance(node.func, ast.Name) and node.func.id in vars(builtins):
                for keyword in node.keywords:
                    self.assertIn(keyword.arg, told.get(node.func.id, ()), where)

    def test_what_is_walked_is_walked_at_once(self):
        walked = {"zip", "enumerate", "reversed", "range"}
        takers = {"list", "tuple", "dict", "sorted", "sum", "any", "all", "enumerate", "zip"}
        for where, node in nodes(ast.AST):
            for part in ast.iter_child_nodes(node):
                if not isinstance(part, ast.Call):
                    continue
                own = isinstance(part.func, ast.Name) and part.func.id in walked
                if own or isinstance(part.func, ast.Attribute) and part.func.attr in ("items", "keys", "values"):
                    taker = node.func.id if isinstance(node, ast.Call) and isinstance(node.func, ast.Name) else ""
                    self.assertTrue(
                        isinstance(node, (ast.For, ast.comprehension)) and node.iter is part
                        or taker in takers and node.args[0] is part
                        or taker in ("min", "max") and len(node.args) + len(node.keywords) == 1,
                        f"{where}: {ast.unparse(part)}",
                    )

    def test_what_stands_at_the_top_is_only_read(self):
        for file in files():
            tree = ast.parse(file.read_text(encoding="utf-8"))
            kept = [node.targets[0].id for node in tree.body
                    if isinstance(node, ast.Assign) and isinstance(node.value, (ast.List, ast.Dict))]
            for node in ast.walk(tree):
                for part in ast.iter_child_nodes(node):
                    if isinstance(part, ast.Name) and part.id in kept and isinstance(part.ctx, ast.Load):
                        read = isinstance(node, ast.Subscript) and isinstance(node.ctx, ast.Load)
                        self.assertTrue(read or isinstance(node, (ast.Compare, ast.For)), f"{file.name}:{part.lineno}")

    def test_sets_stand_where_they_are_asked(self):
        for where, node in nodes(ast.Set):
            self.fail(where)
        for file in files():
            text = file.read_text(encoding="utf-8")
            self.assertEqual(len(re.findall(r"\bset\(", text)), len(re.findall(r"\b(?:len|sorted)\(set\(", text)))


class TestNames(unittest.TestCase):
    def imported(self, tree):
        return [(node.module, alias.name) for node in tree.body if isinstance(node, ast.ImportFrom)
                for alias in node.names if alias.asname is None]

    def defined(self, tree):
        told = [node.name for node in tree.body if isinstance(node, (ast.FunctionDef, ast.ClassDef))]
        return told + [node.targets[0].id for node in tree.body if isinstance(node, ast.Assign)]

    def trees(self):
        return {f"pourwright.{file.stem}": ast.parse(file.read_text(encoding="utf-8")) for file in files()}

    def test_each_name_is_drawn_from_the_file_that_defines_it(self):
        trees = self.trees()
        for file, tree in trees.items():
            for module, name in self.imported(tree):
                self.assertIn(name, self.defined(trees[module]), file)

    def test_no_two_files_draw_from_one_another(self):
        left = {file: {module for module, name in self.imported(tree)} for file, tree in self.trees().items()}
        while left:
            free = [file for file, drawn in left.items() if not drawn & set(left)]
            self.assertTrue(free, left)
            left = {file: drawn for file, drawn in left.items() if file not in free}

    def test_each_name_is_bound_once_at_the_top(self):
        for file, tree in self.trees().items():
            told = self.defined(tree) + [name for module, name in self.imported(tree)]
            self.assertEqual(len(told), len(set(told)), file)

    def test_no_local_is_called_like_a_class_or_an_import(self):
        for file, tree in self.trees().items():
            taken = {name for module, name in self.imported(tree)}
            taken |= {node.name for node in tree.body if isinstance(node, ast.ClassDef)}
            locals_of = [part for node in tree.body if isinstance(node, (ast.FunctionDef, ast.ClassDef))
                         for part in ast.walk(node)]
            for part in locals_of:
                if isinstance(part, ast.Name) and isinstance(part.ctx, ast.Store):
                    self.assertNotIn(part.id, taken, file)
                if isinstance(part, ast.arg):
                    self.assertNotIn(part.arg, taken, file)

    def test_all_that_is_drawn_is_used(self):
        for file, tree in self.trees().items():
            used = {node.id for node in ast.walk(tree) if isinstance(node, ast.Name)}
            for module, name in self.imported(tree):
                self.assertIn(name, used, file)


if __name__ == "__main__":
    unittest.main()
