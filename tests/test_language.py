"""The package's files keep to the part of Python that is agreed on: the rules that can be seen in a file."""

import ast
import builtins
import re
import unittest
from pathlib import Path

PACKAGE = Path(__file__).resolve().parent.parent / "minortables"
FILES = sorted(PACKAGE.rglob("*.py"))

OWN_NAMES = set("""
    len range enumerate zip min max sum abs sorted reversed int str bool list tuple dict set frozenset isinstance ord
    repr any all divmod Exception ValueError TypeError KeyError IndexError LookupError ZeroDivisionError
    ArithmeticError OverflowError RuntimeError NotImplementedError StopIteration
""".split())

OWN_METHODS = set("""
    append clear copy count endswith extend find get index insert isalnum isalpha isdigit islower isspace isupper
    items join keys ljust lower lstrip partition pop remove replace reverse rfind rjust rpartition rsplit rstrip
    setdefault split splitlines startswith strip update upper values zfill bit_length
""".split())

NODES = set("""
    Module FunctionDef ClassDef Lambda arguments arg alias ImportFrom keyword
    Assign AugAssign If While For Return Break Continue Pass Raise Try ExceptHandler Expr
    Constant List Tuple Dict Set BinOp UnaryOp BoolOp Compare IfExp Call Attribute Subscript Slice
    ListComp comprehension JoinedStr FormattedValue Name Load Store
    Add Sub Mult FloorDiv Mod Pow BitAnd BitOr BitXor LShift RShift Invert UAdd USub Not And Or
    Eq NotEq Lt LtE Gt GtE Is IsNot In NotIn
""".split())

BANNED_WORDS = re.compile(
    r"\b(type|typing|typing_extensions|enum|Enum|IntEnum|StrEnum|Flag|IntFlag|Generic|Protocol|ABC|ABCMeta|namedtuple"
    r"|NamedTuple|TypedDict|TYPE_CHECKING|abstractmethod)\b|dataclass|overload|contextmanager")

METHODS_WITH_UNDERSCORES = ["__init__", "__eq__", "__repr__", "__str__", "__len__"]


def bound_names(tree):
    """The names that a file binds, with the line of each."""
    for node in ast.walk(tree):
        if isinstance(node, ast.Name) and isinstance(node.ctx, ast.Store):
            yield node.id, node.lineno
        elif isinstance(node, ast.arg):
            yield node.arg, node.lineno
        elif isinstance(node, (ast.FunctionDef, ast.ClassDef)):
            yield node.name, node.lineno


def at(path, node):
    return path.name + ":" + str(getattr(node, "lineno", "?"))


def each_file():
    for path in FILES:
        text = path.read_text(encoding="utf-8")
        yield path, text, ast.parse(text)


def imports_of(tree):
    return [node for node in tree.body if isinstance(node, ast.ImportFrom)]


class Language(unittest.TestCase):
    def test_only_plain_files(self):
        self.assertTrue((PACKAGE / "__init__.py").is_file())
        for path in PACKAGE.rglob("*"):
            if "__pycache__" not in path.parts:
                self.assertRegex(path.name, r"^([a-z][a-z0-9_]*|__init__|__main__)\.py$")

    def test_signs_and_sizes(self):
        for path, text, tree in each_file():
            self.assertRegex(text, r"\A[\n -~]*\Z")
            self.assertLessEqual(text.count("\n"), 400)
            self.assertLessEqual(max(map(len, text.split("\n"))), 120)
            for node in ast.walk(tree):
                if isinstance(node, ast.FunctionDef):
                    self.assertLessEqual(node.end_lineno - node.lineno + 1, 40, at(path, node))

    def test_words(self):
        for path, text, tree in each_file():
            self.assertIsNone(BANNED_WORDS.search(text), path.name)

    def test_nodes(self):
        for path, text, tree in each_file():
            for node in ast.walk(tree):
                self.assertIn(type(node).__name__, NODES, at(path, node))
                if isinstance(node, ast.ListComp):
                    self.assertEqual(len(node.generators), 1)
                    self.assertLessEqual(len(node.generators[0].ifs), 1)
                if isinstance(node, (ast.For, ast.While)):
                    self.assertEqual(node.orelse, [])
                if isinstance(node, ast.Try):
                    self.assertEqual(node.finalbody, [])
                if isinstance(node, ast.Assign):
                    self.assertEqual(len(node.targets), 1)
                if isinstance(node, (ast.FunctionDef, ast.ClassDef)):
                    self.assertEqual(node.decorator_list, [])
                if isinstance(node, ast.arguments):
                    self.assertEqual([node.vararg, node.kwarg, node.kwonlyargs, node.posonlyargs], [None, None, [], []])
                if isinstance(node, ast.Constant):
                    self.assertIsInstance(node.value, (int, str, type(None)))

    def test_lone_values_are_calls(self):
        for path, text, tree in each_file():
            for node in ast.walk(tree):
                if isinstance(node, ast.Expr) and node is not tree.body[0]:
                    self.assertIsInstance(node.value, ast.Call, at(path, node))

    def test_is_stands_beside_none_and_truths_alone(self):
        for path, text, tree in each_file():
            for node in ast.walk(tree):
                if isinstance(node, ast.Compare) and isinstance(node.ops[0], (ast.Is, ast.IsNot)):
                    self.assertIsInstance(node.comparators[0], ast.Constant, at(path, node))

    def test_imports(self):
        for path, text, tree in each_file():
            for node in ast.walk(tree):
                if isinstance(node, ast.ImportFrom):
                    self.assertIn(node, tree.body)
                    self.assertEqual(node.level, 0)
                    self.assertTrue(node.module.startswith("minortables."), node.module)
            for node in imports_of(tree):
                source = PACKAGE.parent / (node.module.replace(".", "/") + ".py")
                top = ast.parse(source.read_text(encoding="utf-8")).body
                defined = [name for part in top for name, line in bound_names(part)
                           if isinstance(part, (ast.FunctionDef, ast.ClassDef, ast.Assign))]
                for name in node.names:
                    self.assertIn(name.name, defined)
                    self.assertIsNone(name.asname)

    def test_no_two_files_draw_from_one_another(self):
        drawn = {}
        for path, text, tree in each_file():
            drawn["minortables." + path.stem] = {node.module for node in imports_of(tree)}
        while drawn:
            free = [name for name, others in drawn.items() if not others & set(drawn)]
            self.assertNotEqual(free, [], sorted(drawn))
            for name in free:
                drawn.pop(name)

    def test_names(self):
        for path, text, tree in each_file():
            imported = [name.name for node in imports_of(tree) for name in node.names]
            for name, line in bound_names(tree):
                self.assertNotIn(name, imported, (path.name, line))
                self.assertNotIn(name, dir(builtins), (path.name, line))
                if name not in METHODS_WITH_UNDERSCORES:
                    self.assertRegex(name, r"^[A-Za-z][A-Za-z0-9_]*$", (path.name, line))
            tops = [name for node in tree.body for name, line in bound_names(node)
                    if isinstance(node, ast.Assign)]
            tops += [node.name for node in tree.body if isinstance(node, (ast.FunctionDef, ast.ClassDef))]
            self.assertEqual(len(tops), len(set(tops)))
            known = OWN_NAMES | set(imported) | {name for name, line in bound_names(tree)}
            for node in ast.walk(tree):
                if isinstance(node, ast.Name):
                    self.assertIn(node.id, known, at(path, node))

    def test_methods(self):
        own = set()
        for path, text, tree in each_file():
            for node in ast.walk(tree):
                if isinstance(node, ast.ClassDef):
                    own |= {part.name for part in node.body if isinstance(part, ast.FunctionDef)}
        for path, text, tree in each_file():
            for node in ast.walk(tree):
                if isinstance(node, ast.Call) and isinstance(node.func, ast.Attribute):
                    self.assertIn(node.func.attr, OWN_METHODS | own, at(path, node))
