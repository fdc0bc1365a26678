"""The rules of LANGUAGE.md that can be checked by a look at one file; the numbers are those of the rules."""

import ast
import builtins
import pathlib
import unittest

PACKAGE = pathlib.Path(__file__).resolve().parent.parent / "mendnumber"
BUILTINS = set(
    "len range enumerate zip min max sum abs sorted reversed int str bool bytes list tuple dict set frozenset isinstance"
    " ord repr any all divmod iter next map super property staticmethod classmethod NotImplemented Exception ValueError"
    " TypeError KeyError IndexError LookupError ZeroDivisionError ArithmeticError OverflowError RuntimeError"
    " NotImplementedError AttributeError StopIteration".split()
)
ALL_BUILTINS = set(dir(builtins))
LIBRARY = {"heapq", "math", "itertools"}


def files():
    return sorted(path for path in PACKAGE.rglob("*") if path.is_file() and "__pycache__" not in path.parts)


def nodes(*kinds):
    for path in files():
        for node in ast.walk(ast.parse(path.read_text())):
            if isinstance(node, kinds):
                yield f"{path.relative_to(PACKAGE)}:{getattr(node, 'lineno', 0)}", node


class LanguageTest(unittest.TestCase):
    def test_files(self):
        self.assertTrue(files())
        for path in files():
            with self.subTest(str(path)):
                self.assertRegex(path.name, r"^[a-z0-9_]+\.py$", "L1, L14")
                self.assertTrue((path.parent / "__init__.py").is_file(), "L14")
                self.assertFalse(path.with_suffix("").is_dir(), "L14")
                text = path.read_text()
                self.assertTrue(all(sign == "\n" or " " <= sign <= "~" for sign in text), "L14")
                self.assertLessEqual(len(text.splitlines()), 399, "L10")
                self.assertLessEqual(max(map(len, text.splitlines())), 120, "L10")

    def test_functions(self):
        for place, node in nodes(ast.FunctionDef):
            with self.subTest(place):
                self.assertLessEqual(node.end_lineno - node.lineno + 1, 40, "L10")
                told = [ast.unparse(decorator) for decorator in node.decorator_list]
                self.assertLessEqual(len(told), 1, "L5")
                for name in told:
                    self.assertRegex(name, r"^(property|staticmethod|classmethod|\w+\.setter)$", "L4")

    def test_imports(self):
        for place, node in nodes(ast.Import):
            self.fail(f"L16: {place}")
        for place, node in nodes(ast.ImportFrom):
            with self.subTest(place):
                self.assertEqual(node.level, 0, "L2")
                self.assertIn(node.module.split(".")[0], LIBRARY | {"mendnumber"}, "L2")
                self.assertTrue(all(alias.asname is None and alias.name != "*" for alias in node.names), "L2")

    def test_module_level(self):
        allowed = (ast.Expr, ast.ImportFrom, ast.FunctionDef, ast.ClassDef, ast.Assign)
        for place, module in nodes(ast.Module):
            for node in module.body:
                with self.subTest(f"{place}, {node.lineno}"):
                    self.assertIsInstance(node, allowed, "L3")
                    if isinstance(node, ast.Expr):
                        self.assertIsInstance(node.value, ast.Constant, "L3")

    def test_builtins(self):
        for place, node in nodes(ast.Name):
            with self.subTest(place):
                if isinstance(node.ctx, ast.Load):
                    self.assertFalse(node.id in ALL_BUILTINS - BUILTINS, f"L8: {node.id}")
                else:
                    self.assertNotIn(node.id, ALL_BUILTINS, "L15")
        for place, node in nodes(ast.arg):
            with self.subTest(place):
                self.assertNotIn(node.arg, ALL_BUILTINS, "L15")

    def test_statements(self):
        barred = (ast.Global, ast.AsyncFunctionDef, ast.AsyncFor, ast.AsyncWith, ast.Await, ast.Div)
        for place, node in nodes(*barred):
            self.fail(f"L6, L7: {place}")

    def test_constants(self):
        for place, node in nodes(ast.Constant):
            with self.subTest(place):
                self.assertNotIsInstance(node.value, (float, complex), "L7")
                if isinstance(node.value, str):
                    self.assertNotIn("%", node.value, "L27")

    def test_any_and_its_kin_take_lists(self):
        for place, node in nodes(ast.Call):
            if isinstance(node.func, ast.Name) and node.func.id in ("any", "all", "min", "max", "sum", "sorted"):
                with self.subTest(place):
                    self.assertFalse(any(isinstance(given, ast.GeneratorExp) for given in node.args), "L7")
