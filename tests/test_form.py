"""The form of the package: the rules of LANGUAGE.md that can be seen line by line."""

import ast
import builtins
import pathlib
import unittest

PACKAGE = pathlib.Path(__file__).parent.parent / "braceloops"
LIBRARY = {
    "heapq": {"heappush", "heappop", "heapify", "heapreplace", "heappushpop"},
    "math": {"gcd", "lcm", "isqrt", "comb", "perm", "factorial"},
    "itertools": {"product", "combinations", "permutations", "chain", "accumulate", "pairwise",
                  "islice", "zip_longest"},
    "collections": {"defaultdict", "deque"},
}
BUILTINS = set("""
    len range enumerate zip min max sum abs sorted reversed int str bool bytes list tuple dict set
    frozenset isinstance ord repr any all divmod pow map iter next getattr hasattr setattr type
    super property staticmethod classmethod Exception ValueError TypeError KeyError IndexError
    LookupError ZeroDivisionError ArithmeticError OverflowError RuntimeError NotImplementedError
    AttributeError StopIteration NotImplemented
""".split())
# Another test can make doctest keep an answer among the builtins, as the name _.
NAMES_OF_PYTHON = set(dir(builtins)) - {"_"}
OWN_METHODS = {
    "__init__", "__eq__", "__len__", "__call__", "__iter__", "__add__", "__mul__", "__floordiv__",
    "__contains__", "__getitem__",
}
DECORATORS = {"property", "staticmethod", "classmethod"}
BARRED = (ast.AsyncFunctionDef, ast.AsyncFor, ast.AsyncWith, ast.Await, ast.Div)


def sources():
    return sorted(PACKAGE.glob("*.py"))


def nodes_of(path):
    return list(ast.walk(ast.parse(path.read_text(encoding="utf-8"))))


class Form(unittest.TestCase):
    def test_the_package_holds_nothing_but_python_files(self):
        names = [path.name for path in PACKAGE.iterdir() if path.name != "__pycache__"]
        self.assertEqual(sorted(names), [path.name for path in sources()])
        self.assertIn("__init__.py", names)

    def test_sizes_and_characters(self):
        for path in sources():
            text = path.read_bytes().decode("ascii")
            with self.subTest(path.name):
                self.assertLessEqual(len(text.splitlines()), 399)
                self.assertLessEqual(max(map(len, text.splitlines())), 120)
                self.assertEqual([sign for sign in text if not " " <= sign <= "~" and sign != "\n"], [])

    def test_functions_have_at_most_40_lines(self):
        for path in sources():
            for node in nodes_of(path):
                if isinstance(node, ast.FunctionDef):
                    with self.subTest(path.name, function=node.name):
                        self.assertLess(node.end_lineno - node.lineno, 40)

    def test_imports(self):
        modules = {f"braceloops.{path.stem}" for path in sources()}
        for path in sources():
            for node in nodes_of(path):
                with self.subTest(path.name):
                    self.assertNotIsInstance(node, ast.Import)
                if isinstance(node, ast.ImportFrom) and node.module not in modules:
                    with self.subTest(path.name, module=node.module):
                        self.assertLessEqual({name.name for name in node.names},
                                             LIBRARY.get(node.module, set()))

    def test_builtins(self):
        for path in sources():
            for node in nodes_of(path):
                if isinstance(node, ast.Name) and node.id in NAMES_OF_PYTHON:
                    with self.subTest(path.name, line=node.lineno):
                        self.assertIsInstance(node.ctx, ast.Load)
                        self.assertIn(node.id, BUILTINS)
                if isinstance(node, ast.arg):
                    with self.subTest(path.name, line=node.lineno):
                        self.assertNotIn(node.arg, NAMES_OF_PYTHON)

    def test_values_and_statements(self):
        for path in sources():
            for node in nodes_of(path):
                with self.subTest(path.name, line=getattr(node, "lineno", None)):
                    self.assertNotIsInstance(node, BARRED)
                    if isinstance(node, ast.Constant):
                        self.assertNotIsInstance(node.value, (float, complex))
                        self.assertNotIn("%", str(node.value))

    def test_methods_of_classes(self):
        for path in sources():
            for made in nodes_of(path):
                if isinstance(made, ast.ClassDef):
                    self.assertEqual(made.decorator_list, [])
                    methods = [node for node in made.body if isinstance(node, ast.FunctionDef)]
                    names = [method.name for method in methods]
                    with self.subTest(path.name, made=made.name):
                        self.assertEqual(len(names), len(set(names)))
                        self.assertLessEqual({name for name in names if name.startswith("__")}, OWN_METHODS)
                        self.assertTrue("__getitem__" not in names or "__iter__" in names)
                        for method in methods:
                            self.assertLessEqual({ast.unparse(node) for node in method.decorator_list},
                                                 DECORATORS)

    def test_only_methods_have_decorators(self):
        for path in sources():
            tree = ast.parse(path.read_text(encoding="utf-8"))
            for node in tree.body:
                if isinstance(node, ast.FunctionDef):
                    with self.subTest(path.name, function=node.name):
                        self.assertEqual(node.decorator_list, [])
                        self.assertFalse(node.name.startswith("__"))
