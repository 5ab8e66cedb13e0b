"""The package's files keep to the part of Python that the project is written in."""

import ast
import builtins
import pathlib
import re
import unittest

PACKAGE = pathlib.Path(__file__).resolve().parent.parent / "askedpairs"
FILES = sorted(PACKAGE.rglob("*"))

NAMES = set("""len range enumerate zip min max sum abs sorted reversed int str bool bytes list tuple dict set
isinstance ord repr any all divmod Exception ValueError TypeError KeyError IndexError LookupError ZeroDivisionError
ArithmeticError OverflowError RuntimeError NotImplementedError AttributeError StopIteration""".split())
NODES = set("""Module Expr Constant Assign AugAssign If While For Return Break Continue Pass Raise Try ExceptHandler
Assert Delete FunctionDef ClassDef arguments arg ImportFrom alias Name Load Store Del Attribute Subscript Slice Call
keyword BinOp UnaryOp BoolOp Compare IfExp Tuple List Dict Set ListComp DictComp SetComp comprehension Lambda
JoinedStr FormattedValue Starred And Or Not USub Add Sub Mult FloorDiv Mod Pow LShift RShift BitAnd BitOr BitXor
Eq NotEq Lt LtE Gt GtE Is IsNot In NotIn""".split())
METHODS = set("""append clear copy count endswith extend find get index insert isalnum isalpha isdigit islower isspace
isupper items join keys ljust lower lstrip partition pop remove replace reverse rfind rjust rpartition rsplit rstrip
setdefault split splitlines startswith strip update upper values zfill bit_length add discard sort
title capitalize swapcase casefold center expandtabs removeprefix removesuffix rindex isascii isdecimal isnumeric
istitle isidentifier isprintable""".split())
WORDS = re.compile(r"\b(type|typing|typing_extensions|enum|Enum|IntEnum|StrEnum|Flag|IntFlag|Generic|Protocol|ABC|"
                   r"ABCMeta|namedtuple|NamedTuple|TypedDict|TYPE_CHECKING|abstractmethod)\b"
                   r"|dataclass|overload|contextmanager")
NOWHERE = set("""register mro elements open input version_info with_traceback add_note attrgetter breakpoint builtins
compile copyright credits delattr dir eval exec exit gc getattr globals hasattr help id importlib license locals
methodcaller os quit setattr super type vars sys format format_map chr frozenset""".split())


def bound_names(tree):
    """Every name that a file gives, with the place where it does."""
    for node in ast.walk(tree):
        if isinstance(node, (ast.FunctionDef, ast.ClassDef)):
            yield node.name
        elif isinstance(node, ast.arg):
            yield node.arg
        elif isinstance(node, ast.Name) and isinstance(node.ctx, ast.Store):
            yield node.id
        elif isinstance(node, ast.ExceptHandler) and node.name:
            yield node.name


def local_names(tree):
    for node in ast.walk(tree):
        if isinstance(node, ast.FunctionDef):
            for inner in node.body:
                yield from bound_names(inner)
            yield from bound_names(node.args)


def top_names(tree):
    for node in tree.body:
        if isinstance(node, (ast.FunctionDef, ast.ClassDef)):
            yield node.name
        elif isinstance(node, ast.Assign):
            yield from bound_names(node)
        elif isinstance(node, ast.ImportFrom):
            for alias in node.names:
                yield alias.asname or alias.name


class Language(unittest.TestCase):
    def setUp(self):
        self.texts = {path: path.read_text() for path in FILES if path.suffix == ".py"}
        self.trees = {path: ast.parse(text) for path, text in self.texts.items()}

    def walk(self):
        for path, tree in self.trees.items():
            for node in ast.walk(tree):
                yield path, node

    def test_files(self):
        self.assertIn(PACKAGE / "__init__.py", FILES)
        for path in FILES:
            if "__pycache__" not in path.parts:
                self.assertRegex(path.name, r"\A[a-z_0-9]+\.py\Z")

    def test_signs_words_and_sizes(self):
        for path, text in self.texts.items():
            self.assertRegex(text, r"\A[\n -~]*\Z", path)
            self.assertIsNone(WORDS.search(text), path)
            rows = text.split("\n")
            self.assertLessEqual(len(rows), 400, path)
            self.assertLessEqual(max(len(row) for row in rows), 120, path)
        for path, node in self.walk():
            if isinstance(node, ast.FunctionDef):
                self.assertLessEqual(node.end_lineno - node.lineno + 1, 40, node.name)

    def test_statements_and_expressions(self):
        for path, node in self.walk():
            self.assertIn(node.__class__.__name__, NODES, path)
            if isinstance(node, ast.FunctionDef):
                self.assertEqual(node.decorator_list, [])
                self.assertIsNone(node.args.vararg or node.args.kwarg)
            if isinstance(node, (ast.For, ast.While)):
                self.assertEqual(node.orelse, [])
            if isinstance(node, ast.Constant):
                self.assertNotIsInstance(node.value, (float, complex))
            if isinstance(node, ast.Compare):
                for sign, right in zip(node.ops, node.comparators):
                    if isinstance(sign, (ast.Is, ast.IsNot)):
                        self.assertIn(right.value, (None, True, False))

    def test_imports_and_tops(self):
        for path, tree in self.trees.items():
            names = list(top_names(tree))
            self.assertEqual(len(names), len(set(names)), path)
            for node in tree.body:
                self.assertIsInstance(node, (ast.Expr, ast.ImportFrom, ast.Assign, ast.FunctionDef, ast.ClassDef))
                if isinstance(node, ast.ImportFrom):
                    self.assertEqual(node.level, 0)
                    package, name = node.module.split(".")
                    self.assertEqual(package, "askedpairs")
                    drawn = [row for row in self.trees[PACKAGE / (name + ".py")].body
                             if not isinstance(row, ast.ImportFrom)]
                    defined = set(top_names(ast.Module(drawn, [])))
                    self.assertLessEqual({alias.name for alias in node.names}, defined, path)

    def test_no_two_files_draw_from_one_another(self):
        draws = {path.stem: {node.module.split(".")[1] for node in tree.body if isinstance(node, ast.ImportFrom)}
                 for path, tree in self.trees.items()}
        while draws:
            ready = [name for name in draws if not draws[name] & set(draws)]
            self.assertTrue(ready, draws)
            draws = {name: drawn for name, drawn in draws.items() if name not in ready}

    def test_names(self):
        for path, tree in self.trees.items():
            drawn = set(alias.name for node in tree.body if isinstance(node, ast.ImportFrom) for alias in node.names)
            classes = set(node.name for node in tree.body if isinstance(node, ast.ClassDef))
            python = set(vars(builtins))
            for name in bound_names(tree):
                self.assertTrue(name.startswith("__init__") or name[0] != "_", name)
                self.assertNotIn(name, NOWHERE | python, path)
            for name in local_names(tree):
                self.assertNotIn(name, drawn | classes, path)
            for node in ast.walk(tree):
                if isinstance(node, ast.Name) and node.id in python:
                    self.assertIn(node.id, NAMES, path)
                if isinstance(node, ast.Name):
                    self.assertNotIn(node.id, NOWHERE, path)

    def test_classes_and_errors(self):
        classes = {node.name for path, node in self.walk() if isinstance(node, ast.ClassDef)}
        methods, values = set(), set()
        for path, node in self.walk():
            if isinstance(node, ast.ClassDef):
                self.assertEqual((node.decorator_list, node.keywords), ([], []))
                self.assertLessEqual(len(node.bases), 1)
                for row in node.body:
                    self.assertIsInstance(row, (ast.Expr, ast.FunctionDef), path)
                names = [row.name for row in node.body if isinstance(row, ast.FunctionDef)]
                self.assertEqual(len(names), len(set(names)))
                methods |= set(names)
            if isinstance(node, ast.Attribute) and isinstance(node.ctx, ast.Store):
                self.assertIsInstance(node.value, ast.Name)
                values.add(node.attr)
            if isinstance(node, ast.Raise):
                self.assertIn(node.exc.func.id, classes, path)
            if isinstance(node, ast.ExceptHandler):
                self.assertIn(node.type.id, classes, path)
        self.assertFalse(methods & values)
        for path, node in self.walk():
            if isinstance(node, ast.Attribute):
                self.assertIn(node.attr, methods | values | METHODS, path)
                self.assertNotIn(node.attr, NOWHERE, path)
            if isinstance(node, ast.For):
                self.assertNotIsInstance(node.iter, ast.Set)
        python = set(dir(str)) | set(dir(int)) | set(dir(list)) | set(dir(dict)) | set(dir(set)) | set(dir(bytes))
        self.assertLessEqual((methods | values) & python, {"__init__"})

    def test_methods_of_pythons_own(self):
        own = set(node.name for path, node in self.walk() if isinstance(node, ast.FunctionDef))
        for path, node in self.walk():
            if isinstance(node, ast.Call) and isinstance(node.func, ast.Attribute):
                self.assertIn(node.func.attr, METHODS | own, path)


if __name__ == "__main__":
    unittest.main()
