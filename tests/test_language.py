"""Tests of how the package is written: the rules of the subset that can be seen in a file alone."""

import ast
import builtins
import pathlib
import tokenize
import unittest

PACKAGE = pathlib.Path(__file__).resolve().parent.parent / "stylefall"
BUILTINS = set(
    "len range enumerate zip min max sum abs sorted reversed int str bool bytes list tuple dict set frozenset "
    "isinstance ord repr any all divmod map iter next super property staticmethod classmethod "
    "Exception ValueError TypeError KeyError IndexError LookupError ZeroDivisionError ArithmeticError OverflowError "
    "RuntimeError NotImplementedError AttributeError StopIteration NotImplemented".split())
PYTHONS_OWN = set(dir(builtins))
LIBRARY = {
    "heapq": {"heappush", "heappop", "heapify", "heapreplace", "heappushpop"},
    "math": {"gcd", "lcm", "isqrt", "comb", "perm", "factorial"},
    "itertools": {"product", "combinations", "permutations"},
}
NOT_ALLOWED = (ast.Global, ast.AsyncFunctionDef, ast.AsyncFor, ast.AsyncWith, ast.Await, ast.Div, ast.TryStar)
TAKE_A_LIST = ("any", "all", "min", "max", "sum", "sorted")
NOT_NAMED = set("register mro elements open input law version_info with_traceback add_note".split())
AT_TOP = (ast.Expr, ast.ImportFrom, ast.FunctionDef, ast.ClassDef, ast.Assign)


def files():
    return sorted(path for path in PACKAGE.rglob("*") if path.is_file() and path.parent.name != "__pycache__")


def trees():
    return [(path, ast.parse(path.read_text(encoding="utf-8"))) for path in files()]


def nodes(kind):
    return [(path, node) for path, tree in trees() for node in ast.walk(tree) if isinstance(node, kind)]


def bound_names():
    """Each name that a file of the package binds, with the file."""
    for path, node in nodes((ast.Name, ast.arg, ast.FunctionDef, ast.ClassDef, ast.ExceptHandler)):
        if isinstance(node, ast.Name):
            if isinstance(node.ctx, ast.Store):
                yield path, node.id
        elif isinstance(node, ast.arg):
            yield path, node.arg
        elif node.name is not None:
            yield path, node.name


class Files(unittest.TestCase):
    def test_only_python_files_with_plain_names(self):
        self.assertIn(PACKAGE / "__init__.py", files())
        for path in files():
            self.assertRegex(path.name, r"\A([a-z][a-z0-9_]*|__init__|__main__)\.py\Z")

    def test_characters_and_sizes(self):
        for path in files():
            text = path.read_bytes().decode("ascii")
            self.assertEqual([sign for sign in text if not (" " <= sign <= "~" or sign == "\n")], [], path)
            lines = text.split("\n")
            self.assertLessEqual(len(lines), 400, path)
            self.assertLessEqual(max(map(len, lines)), 120, path)

    def test_functions_have_forty_lines_at_most(self):
        for path, node in nodes(ast.FunctionDef):
            self.assertLessEqual(node.end_lineno - node.lineno + 1, 40, (path, node.name))


class Statements(unittest.TestCase):
    def test_what_stands_at_the_top_of_a_file(self):
        for path, tree in trees():
            for node in tree.body:
                self.assertIsInstance(node, AT_TOP, path)
                if isinstance(node, ast.Expr):
                    self.assertIsInstance(node.value, ast.Constant, path)
                if isinstance(node, ast.Assign):
                    self.assertIsInstance(node.targets[0], ast.Name, path)

    def test_imports_name_the_file_that_defines_the_name(self):
        known = {path.stem: {node.name for node in tree.body if hasattr(node, "name")} | {
            node.targets[0].id for node in tree.body if isinstance(node, ast.Assign)} for path, tree in trees()}
        self.assertEqual(nodes(ast.Import), [])
        for path, node in nodes(ast.ImportFrom):
            self.assertEqual(node.level, 0, path)
            for alias in node.names:
                if node.module in LIBRARY:
                    self.assertIn(alias.name, LIBRARY[node.module], path)
                else:
                    package, _, name = node.module.partition(".")
                    self.assertEqual(package, "stylefall", path)
                    self.assertIn(alias.name, known[name], path)

    def test_no_statement_that_is_not_allowed(self):
        for path, node in nodes(NOT_ALLOWED):
            self.assertIsNone(node, (path, node.lineno))

    def test_no_values_of_other_kinds(self):
        for path, node in nodes(ast.Constant):
            self.assertIn(node.value.__class__, (int, str, bytes, bool, None.__class__), (path, node.lineno))

    def test_no_sign_in_strings_that_is_not_allowed(self):
        for path in files():
            with open(path, "rb") as lines:
                for token in tokenize.tokenize(lines.readline):
                    if token.type == tokenize.STRING:
                        self.assertNotIn("%", token.string, (path, token.start))
                        plain = token.string
                        for escape in ("\\n", "\\t", "\\\\", "\\'", '\\"', "\\x00"):
                            plain = plain.replace(escape, "")
                        self.assertNotIn("\\", plain, (path, token.start))

    def test_generators_do_not_stand_where_classes_compare(self):
        for path, node in nodes(ast.Call):
            if isinstance(node.func, ast.Name) and node.func.id in TAKE_A_LIST:
                for given in node.args:
                    self.assertNotIsInstance(given, ast.GeneratorExp, (path, node.lineno))


class Names(unittest.TestCase):
    def test_names_that_are_bound(self):
        for path, name in bound_names():
            self.assertNotIn(name, PYTHONS_OWN - {"__init__", "__doc__"}, path)
            self.assertNotIn(name, NOT_NAMED, path)

    def test_no_name_in_a_function_is_that_of_an_import_or_a_class_of_the_file(self):
        taken = {path: {node.name for node in tree.body if isinstance(node, ast.ClassDef)} | {
            alias.asname or alias.name for node in tree.body if isinstance(node, ast.ImportFrom)
            for alias in node.names} for path, tree in trees()}
        for path, node in nodes((ast.Name, ast.arg)):
            if isinstance(node, ast.arg):
                self.assertNotIn(node.arg, taken[path], (path, node.lineno))
            elif isinstance(node.ctx, ast.Store):
                self.assertNotIn(node.id, taken[path], (path, node.lineno))

    def test_builtins_that_are_used(self):
        for path, node in nodes(ast.Name):
            if node.id in PYTHONS_OWN:
                self.assertIn(node.id, BUILTINS, (path, node.lineno))

    def test_nothing_is_compared_by_is_but_none_true_and_false(self):
        for path, node in nodes(ast.Compare):
            for sign, side in zip(node.ops, node.comparators):
                if isinstance(sign, (ast.Is, ast.IsNot)):
                    self.assertIsInstance(side, ast.Constant, (path, node.lineno))

    def test_each_error_is_made_on_the_spot(self):
        for path, node in nodes(ast.Raise):
            if node.exc is not None:
                self.assertIsInstance(node.exc, ast.Call, (path, node.lineno))
                self.assertIsInstance(node.exc.func, ast.Name, (path, node.lineno))


if __name__ == "__main__":
    unittest.main()
