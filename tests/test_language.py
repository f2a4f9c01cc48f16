"""The package keeps to the small part of Python that it's to be written in, as far as a test can see it."""

import ast
import pathlib
import re
import unittest

PACKAGE = pathlib.Path(__file__).resolve().parent.parent / "energyturns"

STATEMENTS = (
    ast.FunctionDef, ast.ClassDef, ast.ImportFrom, ast.Assign, ast.AugAssign, ast.If, ast.While, ast.For, ast.Return,
    ast.Break, ast.Continue, ast.Pass, ast.Raise, ast.Try, ast.Expr,
)
EXPRESSIONS = (
    ast.Constant, ast.List, ast.Tuple, ast.Dict, ast.BinOp, ast.UnaryOp, ast.BoolOp, ast.Compare, ast.IfExp, ast.Call,
    ast.Attribute, ast.Subscript, ast.Slice, ast.ListComp, ast.JoinedStr, ast.FormattedValue, ast.Name, ast.Lambda,
)
BUILT_IN = (
    "len range enumerate zip min max sum abs sorted reversed int str bool list tuple dict set isinstance ord repr any "
    "all divmod KeyError ZeroDivisionError StopIteration Exception ValueError LookupError IndexError"
).split()
FORBIDDEN_WORDS = (
    "type typing typing_extensions enum Enum IntEnum StrEnum Flag IntFlag Generic Protocol ABC ABCMeta namedtuple "
    "NamedTuple TypedDict TYPE_CHECKING abstractmethod"
).split()
METHODS = (
    "append clear copy count endswith extend find get index insert isalnum isalpha isdigit islower isspace isupper "
    "items join keys ljust lower lstrip partition pop remove replace reverse rfind rjust rpartition rsplit rstrip "
    "setdefault split splitlines startswith strip update upper values zfill bit_length"
).split()


def files():
    return sorted(path for path in PACKAGE.rglob("*") if path.is_file() and path.suffix != ".pyc")


def trees():
    return [(path.name, ast.parse(path.read_text(encoding="utf-8"))) for path in files()]


def bound_names(tree):
    names = [node.id for node in ast.walk(tree) if isinstance(node, ast.Name) and isinstance(node.ctx, ast.Store)]
    names += [node.arg for node in ast.walk(tree) if isinstance(node, ast.arg)]
    names += [node.name for node in ast.walk(tree) if isinstance(node, (ast.FunctionDef, ast.ClassDef))]
    for node in ast.walk(tree):
        if isinstance(node, ast.ImportFrom):
            names += [alias.asname or alias.name for alias in node.names]
    return names


class Files(unittest.TestCase):
    def test_only_plain_files(self):
        self.assertTrue(files())
        for path in files():
            with self.subTest(file=path.name):
                self.assertRegex(path.name, r"^[a-z0-9_]+\.py$")
                self.assertRegex(path.read_bytes().decode("utf-8"), r"\A[ -~\n]*\Z")
                self.assertNotRegex(path.name, r"^(test.*|site|conftest|sitecustomize|usercustomize)\.py$")

    def test_sizes(self):
        for path in files():
            rows = path.read_text(encoding="utf-8").split("\n")
            with self.subTest(file=path.name):
                self.assertLessEqual(len(rows), 400)
                self.assertLessEqual(max(len(row) for row in rows), 120)
        for name, tree in trees():
            for node in ast.walk(tree):
                if isinstance(node, ast.FunctionDef):
                    with self.subTest(file=name, function=node.name):
                        self.assertLessEqual(node.end_lineno - node.lineno + 1, 40)

    def test_words_that_stand_nowhere(self):
        for path in files():
            words = re.findall(r"\w+", path.read_text(encoding="utf-8"))
            with self.subTest(file=path.name):
                self.assertEqual([word for word in words if word in FORBIDDEN_WORDS], [])


class Code(unittest.TestCase):
    def test_only_the_allowed_forms(self):
        for name, tree in trees():
            for node in ast.walk(tree):
                with self.subTest(file=name, line=getattr(node, "lineno", 0)):
                    if isinstance(node, ast.stmt):
                        self.assertIsInstance(node, STATEMENTS)
                    if isinstance(node, ast.expr):
                        self.assertIsInstance(node, EXPRESSIONS)
                    self.assertNotIsInstance(node, (ast.Div, ast.MatMult, ast.Starred))
                    if isinstance(node, ast.Constant):
                        self.assertIn(type(node.value), (int, str, bool, type(None)))

    def test_imports_are_the_packages_own(self):
        for name, tree in trees():
            for node in ast.walk(tree):
                if isinstance(node, ast.ImportFrom):
                    with self.subTest(file=name, line=node.lineno):
                        self.assertIn(node, tree.body)
                        self.assertEqual(node.level, 0)
                        self.assertTrue(node.module.startswith("energyturns."))

    def test_names(self):
        for name, tree in trees():
            bound = bound_names(tree)
            for one in bound:
                with self.subTest(file=name, name=one):
                    self.assertTrue(one == "__init__" or not one.startswith("_"))
                    self.assertNotIn(one, dir(__builtins__) if not isinstance(__builtins__, dict) else __builtins__)
            used = [node.id for node in ast.walk(tree) if isinstance(node, ast.Name)]
            with self.subTest(file=name):
                self.assertEqual([one for one in used if one not in bound and one not in BUILT_IN], [])

    def test_functions_are_plain(self):
        for name, tree in trees():
            for node in ast.walk(tree):
                if isinstance(node, (ast.FunctionDef, ast.ClassDef)):
                    with self.subTest(file=name, line=node.lineno):
                        self.assertEqual(node.decorator_list, [])
                if isinstance(node, ast.arguments):
                    self.assertEqual([node.vararg, node.kwarg, node.kwonlyargs, node.posonlyargs], [None, None, [], []])

    def test_statements_are_plain(self):
        for name, tree in trees():
            for node in ast.walk(tree):
                with self.subTest(file=name, line=getattr(node, "lineno", 0)):
                    if isinstance(node, ast.Assign):
                        self.assertEqual(len(node.targets), 1)
                    if isinstance(node, (ast.For, ast.While)):
                        self.assertEqual(node.orelse, [])
                    if isinstance(node, ast.Try):
                        self.assertEqual(node.finalbody, [])
                    if isinstance(node, ast.ListComp):
                        self.assertEqual(len(node.generators), 1)
                        self.assertLessEqual(len(node.generators[0].ifs), 1)
                    if isinstance(node, ast.Compare) and isinstance(node.ops[0], (ast.Is, ast.IsNot)):
                        self.assertIsInstance(node.comparators[0], ast.Constant)
                        self.assertIn(node.comparators[0].value, (None, True, False))

    def test_the_top_of_a_file_holds_plain_values_once(self):
        for name, tree in trees():
            bound = bound_names(ast.Module([node for node in tree.body if isinstance(node, ast.Assign)], []))
            bound += [node.name for node in tree.body if isinstance(node, (ast.FunctionDef, ast.ClassDef))]
            with self.subTest(file=name):
                self.assertEqual(sorted(set(bound)), sorted(bound))
            for node in tree.body:
                if isinstance(node, ast.Assign):
                    inner = [part for part in ast.walk(node.value) if part is not node.value]
                    with self.subTest(file=name, line=node.lineno):
                        self.assertEqual([part for part in inner if isinstance(part, (ast.List, ast.Dict))], [])
                        above = [part.name for part in tree.body
                                 if isinstance(part, ast.FunctionDef) and part.lineno < node.lineno]
                        self.assertEqual([part.id for part in ast.walk(node.value)
                                          if isinstance(part, ast.Name) and part.id not in above], [])

    def test_no_two_files_draw_from_one_another(self):
        drawn = {}
        for name, tree in trees():
            drawn["energyturns." + name[:-3]] = [node.module for node in tree.body if isinstance(node, ast.ImportFrom)]
        while drawn:
            free = [name for name in drawn if not any(other in drawn for other in drawn[name])]
            self.assertTrue(free, f"these draw from one another: {sorted(drawn)}")
            drawn = {name: drawn[name] for name in drawn if name not in free}

    def test_no_parameter_and_no_local_is_called_like_an_import(self):
        for name, tree in trees():
            drawn = [alias.name for node in tree.body if isinstance(node, ast.ImportFrom) for alias in node.names]
            names = [node for node in ast.walk(tree) if isinstance(node, ast.Name)]
            inner = [node.id for node in names if isinstance(node.ctx, ast.Store)]
            inner += [node.arg for node in ast.walk(tree) if isinstance(node, ast.arg)]
            with self.subTest(file=name):
                self.assertEqual([one for one in inner if one in drawn], [])

    def test_methods_and_values_do_not_share_a_name(self):
        methods, values, called = [], [], []
        for name, tree in trees():
            for node in ast.walk(tree):
                if isinstance(node, ast.ClassDef):
                    methods += [part.name for part in node.body if isinstance(part, ast.FunctionDef)]
                if isinstance(node, ast.Attribute) and isinstance(node.ctx, ast.Store):
                    values.append(node.attr)
                if isinstance(node, ast.Call) and isinstance(node.func, ast.Attribute):
                    called.append(node.func.attr)
        self.assertEqual([one for one in methods if one in values], [])
        self.assertEqual([one for one in called if one not in methods and one not in METHODS], [])


if __name__ == "__main__":
    unittest.main()
