"""The package's own files keep to the small part of Python that LANGUAGE.md tells, as far as a look can see."""

import ast
import builtins
import pathlib
import re
import unittest

PACKAGE = pathlib.Path(__file__).resolve().parent.parent / "shareturns"

NODES = (
    "Module FunctionDef ClassDef Return Assign AugAssign For While If Raise Try Expr Pass Break Continue ImportFrom "
    "alias arguments arg BoolOp And Or BinOp Add Sub Mult FloorDiv Mod Pow BitAnd BitOr BitXor LShift RShift "
    "UnaryOp Not USub Invert Lambda IfExp Dict ListComp comprehension Compare Eq NotEq Lt LtE Gt GtE Is IsNot In NotIn "
    "Call keyword JoinedStr FormattedValue Constant Attribute Subscript Name List Tuple Slice Load Store ExceptHandler"
).split()

BUILT_IN = (
    "len range enumerate zip min max sum abs sorted reversed int str bool list tuple dict set frozenset isinstance ord "
    "repr any all divmod"
).split()

METHODS = (
    "append clear copy count endswith extend find get index insert isalnum isalpha isdigit islower isspace isupper "
    "items join keys ljust lower lstrip partition pop remove replace reverse rfind rjust rpartition rsplit rstrip "
    "setdefault split splitlines startswith strip update upper values zfill bit_length"
).split()

WORDS = (
    "type typing typing_extensions enum Enum IntEnum StrEnum Flag IntFlag Generic Protocol ABC ABCMeta namedtuple "
    "NamedTuple TypedDict TYPE_CHECKING abstractmethod"
).split()


def files():
    return sorted(path for path in PACKAGE.rglob("*") if "__pycache__" not in path.parts and path.is_file())


def trees():
    return [(path.name, ast.parse(path.read_text())) for path in files()]


def names_of_package():
    found = set()
    for name, tree in trees():
        for node in ast.walk(tree):
            if isinstance(node, (ast.FunctionDef, ast.ClassDef)):
                found.add(node.name)
            if isinstance(node, ast.arg):
                found.add(node.arg)
            if isinstance(node, (ast.Name, ast.Attribute)) and isinstance(node.ctx, ast.Store):
                found.add(node.id if isinstance(node, ast.Name) else node.attr)
    return found


class LanguageTest(unittest.TestCase):
    def test_files(self):
        self.assertIn("__init__.py", [path.name for path in files()])
        for path in files():
            self.assertRegex(path.name, r"^(__init__|[a-z][a-z0-9_]*)\.py$")

    def test_size_and_signs(self):
        for path in files():
            text = path.read_text()
            self.assertRegex(text, r"\A[ -~\n]*\Z")
            self.assertLessEqual(len(text.splitlines()), 400)
            self.assertLessEqual(max(len(line) for line in text.splitlines()), 120)

    def test_words(self):
        for path in files():
            found = set(re.findall(r"\w+", path.read_text()))
            self.assertEqual(found & set(WORDS), set(), path.name)

    def test_functions_have_at_most_40_lines(self):
        for name, tree in trees():
            for node in ast.walk(tree):
                if isinstance(node, ast.FunctionDef):
                    self.assertLessEqual(node.end_lineno - node.lineno + 1, 40, node.name)
                    self.assertEqual(node.decorator_list, [])

    def test_statements_and_expressions(self):
        for name, tree in trees():
            for node in ast.walk(tree):
                self.assertIn(node.__class__.__name__, NODES, name)
                if isinstance(node, ast.Assign):
                    self.assertEqual(len(node.targets), 1)
                if isinstance(node, ast.Expr) and node != tree.body[0]:
                    self.assertIsInstance(node.value, ast.Call, name)
                if isinstance(node, (ast.For, ast.While)):
                    self.assertEqual(node.orelse, [])
                if isinstance(node, ast.ImportFrom):
                    self.assertTrue(node.module.startswith("shareturns.") and node.level == 0, name)

    def test_names(self):
        own = names_of_package()
        self.assertEqual(own & set(dir(builtins)), set())
        for name in own - {"__init__"}:
            self.assertRegex(name, r"^[A-Za-z][A-Za-z0-9_]*$")
        for name, tree in trees():
            for node in ast.walk(tree):
                if isinstance(node, ast.Name):
                    self.assertIn(node.id, own | set(BUILT_IN) | imported(tree), name)
                if isinstance(node, ast.Attribute):
                    self.assertIn(node.attr, own | set(METHODS), name)

    def test_no_local_is_called_like_a_class_or_an_import(self):
        for name, tree in trees():
            taken = imported(tree) | {node.name for node in tree.body if isinstance(node, ast.ClassDef)}
            self.assertEqual(taken & locals_of(tree), set(), name)

    def test_no_two_files_draw_from_one_another(self):
        draws = {name[:-3]: drawn_from(tree) for name, tree in trees()}
        done = set()
        while len(done) < len(draws):
            ready = [name for name in draws if name not in done and draws[name] <= done]
            self.assertNotEqual(ready, [], draws)
            done.update(ready)


def imported(tree):
    return {item.name for node in ast.walk(tree) if isinstance(node, ast.ImportFrom) for item in node.names}


def locals_of(tree):
    found = {node.arg for node in ast.walk(tree) if isinstance(node, ast.arg)}
    return found | {node.id for node in ast.walk(tree) if isinstance(node, ast.Name) and isinstance(node.ctx, ast.Store)}


def drawn_from(tree):
    return {node.module.split(".")[1] for node in ast.walk(tree) if isinstance(node, ast.ImportFrom)}
