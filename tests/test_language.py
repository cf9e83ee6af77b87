"""The rules of LANGUAGE.md that are easily checked: files, imports, sizes, builtins and methods."""

import ast
import builtins
import os
import unittest

ROOT = os.path.dirname(os.path.dirname(os.path.abspath(__file__)))
PACKAGE = os.path.join(ROOT, "risensigns")

BUILTINS = set("""len range enumerate zip min max sum abs sorted reversed int str bool bytes list tuple dict set
frozenset isinstance ord repr any all divmod pow Exception ValueError TypeError KeyError IndexError LookupError
ZeroDivisionError ArithmeticError OverflowError RuntimeError NotImplementedError AttributeError StopIteration
NotImplemented iter next property classmethod staticmethod super""".split())

# Python's own examples runner adds `_` to the builtins.
TAKEN = set(dir(builtins)) - {"_"}

METHODS = set("""append clear copy count endswith extend find get index insert isalnum isalpha isdigit islower
isspace isupper items join keys ljust lower lstrip partition pop remove replace reverse rfind rjust rpartition
rsplit rstrip setdefault split splitlines startswith strip update upper values zfill bit_length encode decode
__init__""".split())

STATEMENTS = (ast.FunctionDef, ast.ClassDef, ast.ImportFrom, ast.Assign, ast.AugAssign, ast.If, ast.While, ast.For,
              ast.Return, ast.Break, ast.Continue, ast.Pass, ast.Raise, ast.Assert, ast.Delete, ast.Nonlocal,
              ast.Match, ast.With, ast.Try, ast.Expr)

WORDS = ["typing", "namedtuple", "Enum", "ABC", "dataclass", "overload", "contextmanager", "(type)", "Meta", "_wall"]


def files():
    """The paths of the files of the package, by their names."""
    return {name: os.path.join(PACKAGE, name) for name in sorted(os.listdir(PACKAGE)) if name != "__pycache__"}


def texts():
    for name, path in files().items():
        with open(path, encoding="utf-8") as opened:
            yield name, opened.read()


def nodes():
    for name, text in texts():
        for node in ast.walk(ast.parse(text)):
            yield name, node


class Language(unittest.TestCase):
    def test_files(self):
        for name in files():
            self.assertRegex(name, r"^([a-z][a-z0-9_]*|__init__|__main__)\.py$")
        self.assertIn("__init__.py", files())

    def test_lines(self):
        for name, text in texts():
            lines = text.split("\n")
            self.assertLessEqual(len(lines), 400, name)
            for number, line in enumerate(lines, start=1):
                self.assertLessEqual(len(line), 120, (name, number))
                self.assertTrue(all(" " <= character <= "~" for character in line), (name, number))

    def test_words(self):
        for name, text in texts():
            for word in WORDS:
                self.assertNotIn(word, text, name)

    def test_functions(self):
        for name, node in nodes():
            if isinstance(node, ast.FunctionDef):
                self.assertLessEqual(node.end_lineno - node.lineno + 1, 40, (name, node.name))
                for decorator in node.decorator_list:
                    self.assertIn(ast.unparse(decorator), ("property", "classmethod", "staticmethod"))

    def test_statements(self):
        for name, node in nodes():
            if isinstance(node, ast.stmt):
                self.assertIsInstance(node, STATEMENTS, (name, node.lineno))

    def test_values(self):
        for name, node in nodes():
            self.assertNotIsInstance(node, (ast.Div, ast.Await, ast.AsyncFor, ast.AnnAssign), name)
            if isinstance(node, ast.Constant):
                self.assertNotIsInstance(node.value, (float, complex), name)
            if isinstance(node, ast.Compare):
                self.check_is(name, node)

    def check_is(self, name, node):
        for operator, side in zip(node.ops, node.comparators, strict=True):
            if isinstance(operator, (ast.Is, ast.IsNot)):
                self.assertIn(ast.unparse(side), ("None", "True", "False", "self"), (name, node.lineno))

    def test_imports(self):
        imported = {}
        for name, node in nodes():
            if isinstance(node, ast.ImportFrom):
                self.assertEqual(node.level, 0)
                if node.module.startswith("risensigns."):
                    imported.setdefault(name, []).append(node.module.removeprefix("risensigns.") + ".py")
                else:
                    self.assertIn(node.module, ("heapq", "math", "itertools", "collections"), name)
        for name in files():
            self.check_no_circle(name, imported, [])

    def check_no_circle(self, name, imported, above):
        self.assertNotIn(name, above)
        for other in imported.get(name, []):
            self.assertIn(other, files())
            self.check_no_circle(other, imported, [*above, name])

    def test_builtins(self):
        for name, node in nodes():
            if isinstance(node, ast.Name) and node.id in TAKEN:
                self.assertIn(node.id, BUILTINS, (name, node.lineno))
                self.assertIsInstance(node.ctx, ast.Load, (name, node.lineno))
            if isinstance(node, (ast.FunctionDef, ast.ClassDef)) and not node.name.startswith("__"):
                self.assertNotIn(node.name, TAKEN, name)
            if isinstance(node, ast.arg):
                self.assertNotIn(node.arg, TAKEN, name)

    def test_names_of_methods_and_attributes(self):
        assigned = {node.attr for _, node in nodes()
                    if isinstance(node, ast.Attribute) and isinstance(node.ctx, ast.Store)}
        methods = [part for _, node in nodes() if isinstance(node, ast.ClassDef)
                   for part in node.body if isinstance(part, ast.FunctionDef)]
        self.assertEqual(assigned & {method.name for method in methods}, set())
        yielding = [method.name for method in methods
                    if any(isinstance(node, (ast.Yield, ast.YieldFrom)) for node in ast.walk(method))]
        self.assertEqual(sorted(yielding), ["edges", "free", "growths", "rows", "steps"])
        for name in yielding:
            self.assertEqual([method.name for method in methods].count(name), 1)

    def test_generator_expressions_and_sets(self):
        for name, node in nodes():
            self.assertNotIsInstance(node, (ast.GeneratorExp, ast.Lambda, ast.Set), name)
            if isinstance(node, ast.Call) and ast.unparse(node.func) not in ("sorted", "len"):
                for given in node.args:
                    self.assertNotIsInstance(given, ast.SetComp, (name, node.lineno))
                    self.assertFalse(ast.unparse(given).startswith("set("), (name, node.lineno))

    def test_local_names(self):
        for name, text in texts():
            tree = ast.parse(text)
            taken = {part.name for part in tree.body if isinstance(part, (ast.FunctionDef, ast.ClassDef))}
            taken |= {alias.name for part in tree.body if isinstance(part, ast.ImportFrom) for alias in part.names}
            for node in ast.walk(tree):
                if isinstance(node, ast.FunctionDef):
                    stored = {part.id for part in ast.walk(node)
                              if isinstance(part, ast.Name) and isinstance(part.ctx, ast.Store)}
                    stored |= {part.arg for part in ast.walk(node) if isinstance(part, ast.arg)}
                    self.assertEqual(stored & taken, set(), (name, node.name))

    def test_methods(self):
        own = {node.name for _, node in nodes() if isinstance(node, ast.FunctionDef)}
        for name, node in nodes():
            if isinstance(node, ast.Call) and isinstance(node.func, ast.Attribute):
                self.assertIn(node.func.attr, METHODS | own, (name, node.lineno))


if __name__ == "__main__":
    unittest.main()
