"""The rules of LANGUAGE.md that can be checked by a look at one file; the numbers are those of the rules."""

import ast
import builtins
import pathlib
import unittest

PACKAGE = pathlib.Path(__file__).resolve().parent.parent / "mendnumber"
BUILTINS = set(
    "len range enumerate zip min max sum abs sorted reversed int str bool bytes list tuple dict set frozenset isinstance"
    " ord repr any all divmod iter next map super property staticmethod classmethod NotImplemented Exception ValueError"
    " TypeError KeyError IndexError LookupError ZeroDivisionError ArithmeticError OverflowError RuntimeError"
    " NotImplementedError AttributeError StopIteration".split()
)
ALL_BUILTINS = set(dir(builtins))
LIBRARY = {"heapq", "math", "itertools"}


def files():
    return sorted(path for path in PACKAGE.rglob("*") if path.is_file() and "__pycache__" not in path.parts)


def nodes(*kinds):
    for path in files():
        for node in ast.walk(ast.parse(path.read_text())):
            if isinstance(node, kinds):
                yield f"{path.relative_to(PACKAGE)}:{getattr(node, 'lineno', 0)}", node


class LanguageTest(unittest.TestCase):
    def test_files(self):
        self.assertTrue(files())
        for path in files():
            with self.subTest(str(path)):
                self.assertRegex(path.name, r"^[a-z0-9_]+\.py$", "L1, L14")
                self.assertTrue((path.parent / "__init__.py").is_file(), "L14")
                self.assertFalse(path.with_suffix("").is_dir(), "L14")
                text = path.read_text()
                self.assertTrue(all(sign == "\n" or " " <= sign <= "~" for sign in text), "L14")
                self.assertLessEqual(len(text.splitlines()), 399, "L10")
                self.assertLessEqual(max(map(len, text.splitlines())), 120, "L10")

    def test_functions(self):
        for place, node in nodes(ast.FunctionDef):
            with self.subTest(place):
                self.assertLessEqual(node.end_lineno - node.lineno + 1, 40, "L10")
                told = [ast.unparse(decorator) for decorator in node.decorator_list]
                self.assertLessEqual(len(told), 1, "L5")
                for name in told:
                    self.assertRegex(name, r"^(property|staticmethod|classmethod|\w+\.setter)$", "L4")

    def test_imports(self):
        for place, node in nodes(ast.Import):
            self.fail(f"L16: {place}")
        for place, node in nodes(ast.ImportFrom):
            with self.subTest(place):
                self.assertEqual(node.level, 0, "L2")
                self.assertIn(node.module.split(".")[0], LIBRARY | {"mendnumber"}, "L2")
                self.assertTrue(all(alias.asname is None and alias.name != "*" for alias in node.names), "L2")

    def test_module_level(self):
        allowed = (ast.Expr, ast.ImportFrom, ast.FunctionDef, ast.ClassDef, ast.Assign)
        for place, module in nodes(ast.Module):
            for node in module.body:
                with self.subTest(f"{place}, {node.lineno}"):
                    self.assertIsInstance(node, allowed, "L3")
                    if isinstance(node, ast.Expr):
                        self.assertIsInstance(node.value, ast.Constant, "L3")

    def test_builtins(self):
        for place, node in nodes(ast.Name):
            with self.subTest(place):
                if isinstance(node.ctx, ast.Load):
                    self.assertFalse(node.id in ALL_BUILTINS - BUILTINS, f"L8: {node.id}")
                else:
                    self.assertNotIn(node.id, ALL_BUILTINS, "L15")
        for place, node in nodes(ast.arg):
            with self.subTest(place):
                self.assertNotIn(node.arg, ALL_BUILTINS, "L15")

    def test_statements(self):
        barred = (ast.Global, ast.AsyncFunctionDef, ast.AsyncFor, ast.AsyncWith, ast.Await, ast.Div)
        for place, node in nodes(*barred):
            self.fail(f"L6, L7: {place}")

    def test_constants(self):
        for place, node in nodes(ast.Constant):
            with self.subTest(place):
                self.assertNotIsInstance(node.value, (float, complex), "L7")
                if isinstance(node.value, str):
                    self.assertNotIn("%", node.value, "L27")

    def test_any_and_its_kin_take_lists(self):
        for place, node in nodes(ast.Call):
            if isinstance(node.func, ast.Name) and node.func.id in ("any", "all", "min", "max", "sum", "sorted"):
                with self.subTest(place):
                    self.assertFalse(any(isinstance(given, ast.GeneratorExp) for given in node.args), "L7")

    def test_names_of_imports_and_classes_are_not_used_again(self):
        for path in files():
            tree = ast.parse(path.read_text())
            barred = {node.name for node in tree.body if isinstance(node, ast.ClassDef)}
            for node in tree.body:
                if isinstance(node, ast.ImportFrom):
                    barred |= {alias.name for alias in node.names}
            for node in ast.walk(tree):
                with self.subTest(f"{path}, {getattr(node, 'lineno', 0)}"):
                    if isinstance(node, ast.Name) and not isinstance(node.ctx, ast.Load):
                        self.assertNotIn(node.id, barred, "L15")
                    if isinstance(node, ast.arg):
                        self.assertNotIn(node.arg, barred, "L15")

    def test_names_of_generators_and_properties_stand_alone(self):
        functions = [node for _, node in nodes(ast.FunctionDef)]
        generators = [node.name for node in functions if any(
            isinstance(part, (ast.Yield, ast.YieldFrom)) for part in ast.walk(node))]
        self.assertGreater(len(generators), 3)
        for name in generators:
            self.assertEqual([node.name for node in functions].count(name), 1, "L23")
        properties = {node.name for node in functions if "property" in [
            ast.unparse(decorator) for decorator in node.decorator_list]}
        for node in functions:
            told = [ast.unparse(decorator) for decorator in node.decorator_list]
            if told not in (["property"], [f"{node.name}.setter"]):
                self.assertNotIn(node.name, properties, "L5")
        for place, node in nodes(ast.Attribute):
            if isinstance(node.ctx, ast.Store):
                self.assertNotIn(node.attr, properties, f"L5: {place}")
        for place, node in nodes(ast.Call):
            if isinstance(node.func, ast.Attribute):
                self.assertNotIn(node.func.attr, properties, f"L5: {place}")


class OperatorsTest(unittest.TestCase):
    """L5: what operators, properties, `__eq__`, `__str__` and `__len__` run changes only what it makes itself."""

    def setUp(self):
        self.found = {}
        self.roots = []
        for path in files():
            for node in ast.parse(path.read_text()).body:
                if isinstance(node, ast.ClassDef):
                    for method in node.body:
                        if isinstance(method, ast.FunctionDef):
                            self.enter(method, f"{node.name}.{method.name}")
                            told = [ast.unparse(decorator) for decorator in method.decorator_list]
                            is_operator = method.name.startswith("__") and method.name not in ("__init__", "__call__")
                            if is_operator or "property" in told:
                                self.roots.append(method)
                elif isinstance(node, ast.FunctionDef):
                    self.enter(node, node.name)

    def enter(self, node, name):
        # A class is called by its name; methods are found by their names alone, in whatever class they stand.
        short = name.split(".")[-1]
        self.found.setdefault(name.split(".")[0] if short == "__init__" else short, []).append(node)

    def reached(self):
        queue, seen = list(self.roots), []
        while queue:
            node = queue.pop()
            if node in seen:
                continue
            seen.append(node)
            for call in ast.walk(node):
                if isinstance(call, ast.Call):
                    name = call.func.id if isinstance(call.func, ast.Name) else call.func.attr
                    queue.extend(self.found.get(name, []))
        return seen

    def own(self, node):
        """The names that a function assigns only what it has just made."""
        made, other = set(), {argument.arg for argument in node.args.args + node.args.kwonlyargs}
        for part in ast.walk(node):
            if isinstance(part, ast.Assign):
                for target in part.targets:
                    if isinstance(target, ast.Name):
                        fresh = isinstance(part.value, (ast.List, ast.Dict, ast.ListComp)) or (
                            isinstance(part.value, ast.Call) and isinstance(part.value.func, ast.Name)
                            and part.value.func.id in ("list", "dict", "sorted"))
                        (made if fresh else other).add(target.id)
        return made - other

    def test_what_operators_run_changes_nothing_else(self):
        modifying = {"append", "clear", "extend", "insert", "pop", "remove", "reverse", "setdefault", "update", "add",
                     "discard", "sort"}
        reached = self.reached()
        self.assertGreater(len(reached), 20)
        for node in reached:
            own = self.own(node)
            arguments = {argument.arg for argument in node.args.args}
            for part in ast.walk(node):
                with self.subTest(f"{node.name}, {getattr(part, 'lineno', 0)}"):
                    if isinstance(part, ast.Call):
                        if isinstance(part.func, ast.Attribute) and part.func.attr in modifying:
                            self.assertIsInstance(part.func.value, ast.Name)
                            self.assertIn(part.func.value.id, own)
                        if isinstance(part.func, ast.Name):
                            self.assertNotIn(part.func.id, arguments - {"cls"})
                            self.assertNotIn(part.func.id, ("map", "heappush", "heappop"))
                    if isinstance(part, ast.AugAssign):
                        self.assertIsInstance(part.target, ast.Name)
                        self.assertIsInstance(part.value, ast.Constant)
                    if isinstance(part, ast.Assign):
                        for target in part.targets:
                            self.check_target(node, target, own)

    def check_target(self, node, target, own):
        if isinstance(target, ast.Attribute):
            self.assertEqual(node.name, "__init__")
        if isinstance(target, ast.Subscript):
            self.assertIsInstance(target.value, ast.Name)
            self.assertIn(target.value.id, own)
