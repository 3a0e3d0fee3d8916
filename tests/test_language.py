"""The rules for the files of the package that can be read off them without running them."""

import ast
import builtins
import re
import unittest
from pathlib import Path

PACKAGE = Path(__file__).resolve().parent.parent / "peermend"
FILES = sorted(PACKAGE.rglob("*.py"))

LIBRARY = {
    "heapq": {"heappush", "heappop", "heapify", "heapreplace", "heappushpop"},
    "math": {"gcd", "lcm", "isqrt", "comb", "perm", "factorial"},
    "itertools": {"product", "combinations", "permutations", "chain", "accumulate", "pairwise",
                  "islice", "zip_longest"},
    "collections": {"defaultdict"},
    "__future__": {"annotations"},
}
BUILTINS = set("""
    len range enumerate zip map min max sum abs sorted reversed int str bool list tuple dict set
    isinstance ord repr any all divmod pow getattr hasattr setattr iter next property staticmethod
    classmethod super object Exception ValueError TypeError KeyError IndexError LookupError
    ZeroDivisionError ArithmeticError OverflowError RuntimeError NotImplementedError
    AttributeError StopIteration NotImplemented
""".split())
BARRED = (ast.Global, ast.AsyncFunctionDef, ast.AsyncFor, ast.AsyncWith, ast.Await, ast.Div,
          ast.Import)
AT_MODULE_LEVEL = (ast.ImportFrom, ast.FunctionDef, ast.ClassDef, ast.Assign)


def tree_of(path):
    return ast.parse(path.read_text(encoding="utf-8"))


def nodes():
    for path in FILES:
        for node in ast.walk(tree_of(path)):
            yield f"{path.name}:{getattr(node, 'lineno', 0)}", node


def is_docstring(statement):
    return isinstance(statement, ast.Expr) and isinstance(statement.value, ast.Constant)


class Language(unittest.TestCase):

    def test_the_package_is_there_and_holds_nothing_but_its_files(self):
        self.assertIn(PACKAGE / "__init__.py", FILES)
        for path in PACKAGE.rglob("*"):
            if path.is_file() and path.parent.name != "__pycache__":
                self.assertRegex(path.name, r"^([a-z][a-z0-9_]*|__init__|__main__)\.py$")

    def test_characters_lines_and_lengths(self):
        for path in FILES:
            lines = path.read_text(encoding="utf-8").split("\n")
            self.assertLessEqual(len(lines), 399, path.name)
            for number, line in enumerate(lines, 1):
                self.assertTrue(len(line) <= 120 and re.fullmatch("[ -~]*", line),
                                f"{path.name}:{number}")

    def test_functions_have_at_most_40_lines(self):
        for place, node in nodes():
            if isinstance(node, ast.FunctionDef):
                self.assertLessEqual(node.end_lineno - node.lineno + 1, 40, place)

    def test_imports(self):
        for place, node in nodes():
            if isinstance(node, ast.ImportFrom):
                self.assertEqual(node.level, 0, place)
                names = {alias.name for alias in node.names}
                if node.module in LIBRARY:
                    self.assertLessEqual(names, LIBRARY[node.module], place)
                else:
                    self.assertLessEqual(names, self.defined_in(node.module), place)

    def defined_in(self, name):
        parts = name.split(".")
        self.assertEqual(parts[0], "peermend")
        found = set()
        for statement in tree_of(PACKAGE.joinpath(*parts[1:]).with_suffix(".py")).body:
            if isinstance(statement, ast.Assign):
                found.update(target.id for target in statement.targets)
            elif isinstance(statement, (ast.FunctionDef, ast.ClassDef)):
                found.add(statement.name)
        return found

    def test_statements_and_values(self):
        for place, node in nodes():
            self.assertNotIsInstance(node, BARRED, place)
            if isinstance(node, ast.Constant):
                self.assertNotIsInstance(node.value, (float, complex), place)
                if isinstance(node.value, str):
                    self.assertNotIn("%", node.value, place)

    def test_module_level(self):
        for path in FILES:
            for statement in tree_of(path).body:
                self.assertTrue(isinstance(statement, AT_MODULE_LEVEL) or is_docstring(statement),
                                f"{path.name}:{statement.lineno}")

    def test_builtins(self):
        for place, node in nodes():
            if isinstance(node, ast.Name) and hasattr(builtins, node.id):
                self.assertIn(node.id, BUILTINS, place)
                self.assertIsInstance(node.ctx, ast.Load, place)


if __name__ == "__main__":
    unittest.main()
