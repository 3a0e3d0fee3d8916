"""The rules for the files of the package that can be read off them without running them."""

import ast
import builtins
import re
import unittest
from pathlib import Path

PACKAGE = Path(__file__).resolve().parent.parent / "peermend"
FILES = sorted(PACKAGE.rglob("*.py"))

LIBRARY = {
    "heapq": {"heappush", "heappop", "heapify", "heapreplace", "heappushpop"},
    "math": {"gcd", "lcm", "isqrt", "comb", "perm", "factorial"},
    "itertools": {"product", "combinations", "permutations", "chain", "accumulate", "pairwise",
                  "islice", "zip_longest"},
    "collections": {"defaultdict"},
    "__future__": {"annotations"},
}
BUILTINS = set("""
    len range enumerate zip map min max sum abs sorted reversed int str bool list tuple dict set
    isinstance ord repr any all divmod pow getattr hasattr setattr iter next property staticmethod
    classmethod super object Exception ValueError TypeError KeyError IndexError LookupError
    ZeroDivisionError ArithmeticError OverflowError RuntimeError NotImplementedError
    AttributeError StopIteration NotImplemented
""".split())
METHODS = set("""
    append clear copy count endswith extend find get index insert isalnum isalpha isdigit islower
    isspace isupper items join keys ljust lower lstrip partition pop remove replace reverse rfind
    rjust rpartition rsplit rstrip setdefault split splitlines startswith strip update upper values
    zfill bit_length add discard
""".split())
SPECIAL = set("""
    init eq repr str len enter exit call iter lt le gt ge ne add sub mul floordiv mod pow and or xor
    lshift rshift radd rsub rmul rfloordiv rmod rand ror rxor rlshift rrshift iadd isub imul
    ifloordiv imod ipow iand ior ixor ilshift irshift neg pos invert abs bool contains getitem
    setitem
""".split())
UNUSED = set("""
    register mro elements open input law version_info with_traceback add_note attrgetter breakpoint
    builtins compile copyright credits delattr dir eval exec exit gc globals help id importlib
    license locals methodcaller os quit sys type vars
""".split())
BARRED = (ast.Global, ast.AsyncFunctionDef, ast.AsyncFor, ast.AsyncWith, ast.Await, ast.Div,
          ast.Import)
AT_MODULE_LEVEL = (ast.ImportFrom, ast.FunctionDef, ast.ClassDef, ast.Assign)


def tree_of(path):
    return ast.parse(path.read_text(encoding="utf-8"))


def nodes():
    for path in FILES:
        for node in ast.walk(tree_of(path)):
            yield f"{path.name}:{getattr(node, 'lineno', 0)}", node


def is_docstring(statement):
    return isinstance(statement, ast.Expr) and isinstance(statement.value, ast.Constant)


class Language(unittest.TestCase):

    def test_the_package_is_there_and_holds_nothing_but_its_files(self):
        self.assertIn(PACKAGE / "__init__.py", FILES)
        for path in PACKAGE.rglob("*"):
            if path.is_file() and path.parent.name != "__pycache__":
                self.assertRegex(path.name, r"^([a-z][a-z0-9_]*|__init__|__main__)\.py$")

    def test_characters_lines_and_lengths(self):
        for path in FILES:
            lines = path.read_text(encoding="utf-8").split("\n")
            self.assertLessEqual(len(lines), 399, path.name)
            for number, line in enumerate(lines, 1):
                self.assertTrue(len(line) <= 120 and re.fullmatch("[ -~]*", line),
                                f"{path.name}:{number}")

    def test_functions_have_at_most_40_lines(self):
        for place, node in nodes():
            if isinstance(node, ast.FunctionDef):
                self.assertLessEqual(node.end_lineno - node.lineno + 1, 40, place)

    def test_imports(self):
        for place, node in nodes():
            if isinstance(node, ast.ImportFrom):
                self.assertEqual(node.level, 0, place)
                names = {alias.name for alias in node.names}
                if node.module in LIBRARY:
                    self.assertLessEqual(names, LIBRARY[node.module], place)
                else:
                    self.assertLessEqual(names, self.defined_in(node.module), place)

    def defined_in(self, name):
        parts = name.split(".")
        self.assertEqual(parts[0], "peermend")
        found = set()
        for statement in tree_of(PACKAGE.joinpath(*parts[1:]).with_suffix(".py")).body:
            if isinstance(statement, ast.Assign):
                found.update(target.id for target in statement.targets)
            elif isinstance(statement, (ast.FunctionDef, ast.ClassDef)):
                found.add(statement.name)
        return found

    def test_statements_and_values(self):
        for place, node in nodes():
            self.assertNotIsInstance(node, BARRED, place)
            if isinstance(node, ast.Constant):
                self.assertNotIsInstance(node.value, (float, complex), place)
                if isinstance(node.value, str):
                    self.assertNotIn("%", node.value, place)

    def test_module_level(self):
        for path in FILES:
            for statement in tree_of(path).body:
                self.assertTrue(isinstance(statement, AT_MODULE_LEVEL) or is_docstring(statement),
                                f"{path.name}:{statement.lineno}")

    def test_builtins(self):
        for place, node in nodes():
            if isinstance(node, ast.Name) and hasattr(builtins, node.id):
                self.assertIn(node.id, BUILTINS, place)
                self.assertIsInstance(node.ctx, ast.Load, place)

    def test_no_two_files_import_from_each_other(self):
        known = {path.stem: {node.module.split(".")[-1] for node in ast.walk(tree_of(path))
                             if isinstance(node, ast.ImportFrom) and node.module not in LIBRARY}
                 for path in FILES}
        done = set()
        while len(done) < len(known):
            ready = {name for name in known if name not in done and known[name] <= done}
            self.assertTrue(ready, sorted(set(known) - done))
            done |= ready

    def test_decorators(self):
        for place, node in nodes():
            for decorator in getattr(node, "decorator_list", ()):
                self.assertIsInstance(node, ast.FunctionDef, place)
                if isinstance(decorator, ast.Attribute):
                    self.assertEqual((decorator.attr, decorator.value.id), ("setter", node.name))
                else:
                    self.assertIn(decorator.id, ("property", "classmethod", "staticmethod"), place)

    def test_names(self):
        for place, node in nodes():
            for name in self.bound_by(node):
                self.assertNotIn(name, UNUSED, place)
                self.assertFalse(name in dir(builtins) and name not in METHODS, f"{place} {name}")
                if re.fullmatch("__.*__", name):
                    self.assertIn(name.strip("_"), SPECIAL, place)
                else:
                    self.assertRegex(name, r"^(_|_?[A-Za-z][A-Za-z0-9_]*)$", place)

    def bound_by(self, node):
        if isinstance(node, (ast.FunctionDef, ast.ClassDef)):
            return [node.name]
        if isinstance(node, ast.arg):
            return [node.arg]
        if isinstance(node, ast.Name) and isinstance(node.ctx, ast.Store):
            return [node.id]
        if isinstance(node, ast.Attribute) and isinstance(node.ctx, ast.Store):
            return [node.attr]
        return []

    def test_no_name_of_a_file_is_given_another_meaning_in_it(self):
        for path in FILES:
            tree = tree_of(path)
            known = [name for statement in tree.body for name in self.named_by(statement)]
            self.assertEqual(len(known), len(set(known)), path.name)
            for node in ast.walk(tree):
                inside = isinstance(node, ast.arg) or isinstance(node, ast.Name) and node not in [
                    target for statement in tree.body for target in getattr(statement, "targets", ())]
                for name in self.bound_by(node) if inside else ():
                    self.assertNotIn(name, known, f"{path.name}:{node.lineno}")

    def named_by(self, statement):
        if isinstance(statement, ast.ImportFrom):
            return [alias.name for alias in statement.names]
        if isinstance(statement, ast.Assign):
            return [target.id for target in statement.targets]
        return self.bound_by(statement)

    def test_no_name_is_an_attribute_and_a_method(self):
        methods = {method.name for _, node in nodes() if isinstance(node, ast.ClassDef)
                   for method in node.body if isinstance(method, ast.FunctionDef)}
        for place, node in nodes():
            if isinstance(node, ast.Attribute) and isinstance(node.ctx, ast.Store):
                self.assertNotIn(node.attr, methods, place)

    def test_methods(self):
        own = {node.name for _, node in nodes() if isinstance(node, ast.FunctionDef)}
        for place, node in nodes():
            if isinstance(node, ast.Call) and isinstance(node.func, ast.Attribute):
                self.assertIn(node.func.attr, METHODS | own | {"__init__"}, place)

    def test_defaults_are_plain(self):
        for place, node in nodes():
            if isinstance(node, ast.arguments):
                for default in node.defaults + [one for one in node.kw_defaults if one]:
                    self.assertIsInstance(ast.literal_eval(default),
                                          (int, str, bytes, tuple, type(None)), place)

    def test_combinations_are_of_a_plain_number_of_items(self):
        for _, function in nodes():
            if isinstance(function, ast.FunctionDef):
                for call in ast.walk(function):
                    if self.calls(call, "combinations", "permutations") and len(call.args) > 1:
                        self.assertTrue(self.is_plain_number(call.args[1], function),
                                        f"{function.name}:{call.lineno}")

    def test_which_numbers_are_plain(self):
        plain = ("n = 2", "n = len(xs) + 1", "n = int(x)", "for n in range(9): pass",
                 "m = 2\nn = m + 1", "[n for n in range(9)]")
        other = ("n = x", "n = len(xs) - x", "n = f(xs)", "n += x", "n, m = xs", "n = True",
                 "for n in xs: pass", "[n for n in xs]", "n = n + 1", "if n := x: pass", "pass")
        for rows in plain + other:
            tree = ast.parse(rows)
            self.assertEqual(self.is_plain_number(ast.Name("n"), tree), rows in plain, rows)
        for rows in other[:-1]:
            for more in plain:
                self.assertFalse(self.is_plain_number(ast.Name("n"), ast.parse(f"{more}\n{rows}")))
        bare, assigned = ast.parse("def f(n): pass\ndef g(n):\n    n = 2").body
        self.assertTrue(self.is_plain_number(ast.Name("n"), bare))
        self.assertFalse(self.is_plain_number(ast.Name("n"), assigned))

    def calls(self, node, *names):
        return isinstance(node, ast.Call) and isinstance(node.func, ast.Name) and node.func.id in names

    def is_plain_number(self, value, tree, met=()):
        if isinstance(value, ast.Constant):
            # True is an integer, too, but no number that is written out.
            return isinstance(value.value, int) and not isinstance(value.value, bool)
        if isinstance(value, ast.BinOp) and isinstance(value.op, ast.Add):
            return all(self.is_plain_number(side, tree, met) for side in (value.left, value.right))
        if isinstance(value, ast.Name) and value.id not in met:
            return self.is_plain_name(value.id, tree, met + (value.id,))
        return self.calls(value, "len", "int")

    def is_plain_name(self, name, tree, met):
        nodes_of = list(ast.walk(tree))
        stored = [node for node in nodes_of if name in self.bound_by(node)]
        if any(isinstance(node, ast.arg) for node in stored):
            return len(stored) == 1
        known = 0
        for node in nodes_of:
            targets = getattr(node, "targets", None) or [getattr(node, "target", None)]
            if any(isinstance(target, ast.Name) and target.id == name for target in targets):
                if isinstance(node, ast.Assign):
                    known += self.is_plain_number(node.value, tree, met)
                elif isinstance(node, (ast.For, ast.comprehension)):
                    known += self.calls(node.iter, "range")
        return 0 < known == len(stored)

    def test_what_is_iterated_at_once_is_a_list(self):
        # The package has a class with == and with len, so no generator expression is used.
        for place, node in nodes():
            self.assertNotIsInstance(node, (ast.GeneratorExp, ast.Lambda), place)


if __name__ == "__main__":
    unittest.main()
