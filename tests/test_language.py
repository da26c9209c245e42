"""Checks the files of the package against the rules of the subset of Python that can be seen in a file."""

import ast
import builtins
import pathlib
import re
import unittest
import warnings

FOLDER = pathlib.Path(__file__).parent.parent / "hangstogether"
FILES = sorted(path for path in FOLDER.rglob("*") if path.is_file() and "__pycache__" not in path.parts)
BUILTINS = set(
    "len range enumerate zip min max sum abs sorted reversed int str bool list tuple dict set isinstance ord repr any"
    " all divmod ValueError KeyError IndexError type iter".split()
)
METHODS = set(
    "append clear copy count endswith extend find get index insert isalnum isalpha isdigit islower isspace isupper"
    " items join keys ljust lower lstrip partition pop remove replace reverse rfind rjust rpartition rsplit rstrip"
    " setdefault split splitlines startswith strip update upper values zfill bit_length add discard __init__".split()
)
BARRED = set(
    "mro elements open input law version_info with_traceback add_note register attrgetter breakpoint builtins compile"
    " copyright credits delattr dir eval exec exit gc getattr globals hasattr help id importlib license locals"
    " methodcaller os quit setattr super vars".split()
)
LIBRARY = {"gcd", "lcm", "isqrt", "comb", "perm", "factorial"}
MODULE_LEVEL = (ast.Import, ast.ImportFrom, ast.FunctionDef, ast.ClassDef, ast.Assign, ast.Expr)
NEVER = (
    ast.GeneratorExp, ast.Global, ast.Yield, ast.YieldFrom, ast.AsyncFunctionDef, ast.Await, ast.Div, ast.With,
    ast.NamedExpr, ast.Set,
)


def assigned_names(node):
    """Return the names that a function or a module assigns, parameters and loop variables included."""
    names = []
    for part in ast.walk(node):
        if isinstance(part, ast.arg):
            names.append(part.arg)
        elif isinstance(part, ast.Name) and isinstance(part.ctx, ast.Store):
            names.append(part.id)
        elif isinstance(part, (ast.FunctionDef, ast.ClassDef)):
            names.append(part.name)
    return names


class LanguageTest(unittest.TestCase):
    def trees(self):
        for path in FILES:
            with self.subTest(path.name):
                yield path, ast.parse(path.read_text())

    def test_files(self):
        self.assertGreater(len(FILES), 10)
        for path in FILES:
            self.assertRegex(path.name, r"\A[a-z_]+\.py\Z")
            text = path.read_bytes()
            self.assertTrue(all([byte == 10 or 32 <= byte < 127 for byte in text]), path.name)
            lines = text.decode().split("\n")
            self.assertLess(len(lines), 400, path.name)
            self.assertLessEqual(max(map(len, lines)), 120, path.name)
            with warnings.catch_warnings():
                warnings.simplefilter("error")
                compile(text, path.name, "exec")

    def test_module_level(self):
        for path, tree in self.trees():
            for node in tree.body:
                self.assertIsInstance(node, MODULE_LEVEL)
                if isinstance(node, ast.Expr):
                    self.assertIs(node, tree.body[0])
                    self.assertIsInstance(node.value, ast.Constant)
                if isinstance(node, ast.Assign):
                    self.assertIsInstance(node.targets[0], ast.Name)
                    self.assertEqual(len(node.targets), 1)

    def test_imports(self):
        graph = {}
        for path, tree in self.trees():
            graph[path.stem] = []
            for node in ast.walk(tree):
                self.assertNotIsInstance(node, ast.Import)
                if isinstance(node, ast.ImportFrom):
                    self.assertIn(node, tree.body)
                    self.assertEqual([name.asname for name in node.names], [None] * len(node.names))
                    if node.module == "math":
                        self.assertLessEqual({name.name for name in node.names}, LIBRARY)
                        continue
                    self.assertRegex(node.module, r"\Ahangstogether\.[a-z]+\Z")
                    file = FOLDER / (node.module.split(".")[1] + ".py")
                    names = {name for part in ast.parse(file.read_text()).body for name in assigned_names(part)}
                    self.assertLessEqual({name.name for name in node.names}, names)
                    graph[path.stem].append(file.stem)
        while graph:
            free = [stem for stem, needed in graph.items() if not set(needed) & set(graph)]
            self.assertTrue(free, "files import from each other: " + ", ".join(graph))
            for stem in free:
                del graph[stem]

    def test_functions_and_classes(self):
        for path, tree in self.trees():
            for node in ast.walk(tree):
                self.assertNotIsInstance(node, NEVER)
                if isinstance(node, (ast.FunctionDef, ast.ClassDef)):
                    self.assertEqual(node.decorator_list, [])
                if isinstance(node, ast.FunctionDef):
                    self.assertLessEqual(node.end_lineno - node.lineno + 1, 40, node.name)

    def test_errors(self):
        tree = ast.parse((FOLDER / "errors.py").read_text())
        own = {node.name for node in tree.body if isinstance(node, ast.ClassDef)}
        for path, tree in self.trees():
            for node in ast.walk(tree):
                if isinstance(node, ast.Try):
                    self.assertEqual(node.finalbody, [])
                    self.assertLessEqual({handler.type.id for handler in node.handlers}, own)
                    # One call of an own function stands in it.
                    self.assertIsInstance(node.body[0].value.func, ast.Name)
                    self.assertEqual(len(node.body), 1)
                if isinstance(node, ast.Raise):
                    self.assertIn(node.exc.func.id, own - {"WeaveError"})

    def test_iteration(self):
        for path, tree in self.trees():
            calls = [node for node in ast.walk(tree) if isinstance(node, ast.Call) and isinstance(node.func, ast.Name)]
            steps = [node for node in calls if node.func.id == "iter"]
            methods = [node for node in ast.walk(tree) if isinstance(node, ast.FunctionDef)]
            for node in methods:
                if node.name == "__iter__":
                    self.assertEqual([type(row) for row in node.body], [ast.Return])
                    self.assertIs(node.body[0].value, steps.pop())
                if node.name == "__len__":
                    self.assertEqual([type(row) for row in node.body], [ast.Return])
                    self.assertEqual(node.body[0].value.func.id, "len")
            self.assertEqual(steps, [])

    def test_names(self):
        for path, tree in self.trees():
            taken = set()
            for node in tree.body:
                if isinstance(node, ast.ImportFrom):
                    names = [name.name for name in node.names]
                elif isinstance(node, ast.Assign):
                    names = [node.targets[0].id]
                else:
                    names = [node.name] if isinstance(node, (ast.FunctionDef, ast.ClassDef)) else []
                self.assertFalse(taken & set(names))
                taken.update(names)
            fixed = {name.name for node in tree.body if isinstance(node, ast.ImportFrom) for name in node.names}
            fixed |= {node.name for node in tree.body if isinstance(node, ast.ClassDef)}
            for node in tree.body:
                if isinstance(node, ast.FunctionDef):
                    self.assertFalse(set(assigned_names(node)[1:]) & fixed, node.name)
                elif isinstance(node, ast.ClassDef):
                    self.assertFalse(set(assigned_names(node)[1:]) & fixed, node.name)
                for name in assigned_names(node):
                    self.assertFalse(name in dir(builtins) or name in BARRED, name)
                    self.assertRegex(name, r"\A(_?[A-Za-z][A-Za-z0-9_]*|_|__init__|__len__|__iter__)\Z")

    def test_builtins_and_methods(self):
        own = {
            name for _, tree in self.trees() for node in tree.body if isinstance(node, ast.ClassDef)
            for name in assigned_names(node)
        }
        for path, tree in self.trees():
            for node in ast.walk(tree):
                if isinstance(node, ast.Name) and node.id in dir(builtins):
                    self.assertIn(node.id, BUILTINS)
                if isinstance(node, ast.Call) and isinstance(node.func, ast.Attribute):
                    self.assertIn(node.func.attr, METHODS | own)
                if isinstance(node, ast.Name) and isinstance(node.ctx, ast.Load):
                    self.assertNotEqual(node.id, "_")
                if isinstance(node, (ast.Is, ast.IsNot)):
                    continue
                if isinstance(node, ast.Compare):
                    for sign, right in zip(node.ops, node.comparators):
                        if isinstance(sign, (ast.Is, ast.IsNot)):
                            self.assertTrue(isinstance(right, ast.Constant) or right.id == "int")

    def test_strings_and_numbers(self):
        for path, tree in self.trees():
            self.assertNotRegex(path.read_text(), r"\\[^n\\\"]|\b(typing|dataclass|overload|contextmanager)\b")
            for node in ast.walk(tree):
                if isinstance(node, ast.Constant):
                    self.assertNotIsInstance(node.value, (float, complex))
                    if isinstance(node.value, str):
                        self.assertNotIn("%", node.value)
                        self.assertIsNone(re.search(r"__|\._?\Z", node.value) if "." not in node.value else None)
                if isinstance(node, ast.BinOp):
                    self.assertNotIsInstance(node.op, ast.Pow)
                if isinstance(node, ast.Set):
                    self.assertNotIn(ast.Starred, [type(part) for part in node.elts])
