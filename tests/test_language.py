"""Some of the rules of ../shared/LANGUAGE.md: forms, names, imports, signs and sizes. The others are kept by eye."""

import ast
import builtins
import re
import unittest
from pathlib import Path

PACKAGE = Path(__file__).resolve().parent.parent / "ringfigures"
FILES = sorted(PACKAGE.rglob("*.py"))

STATEMENTS = (
    "Module Import ImportFrom alias FunctionDef arguments arg ClassDef Assign AugAssign If While For Return Break "
    "Continue Pass Raise Try ExceptHandler Expr"
)
EXPRESSIONS = (
    "Constant List Tuple Dict Set BinOp UnaryOp BoolOp Compare IfExp Call keyword Attribute Subscript Slice ListComp "
    "comprehension JoinedStr FormattedValue Lambda Name Load Store Add Sub Mult FloorDiv Mod Pow LShift RShift BitOr "
    "BitXor BitAnd Invert Not USub UAdd And Or Eq NotEq Lt LtE Gt GtE Is IsNot In NotIn"
)
NODES = set((STATEMENTS + " " + EXPRESSIONS).split())
OWN_OF_PYTHON = set(
    "len range enumerate zip min max sum abs sorted reversed int str bool list tuple dict set frozenset isinstance ord "
    "repr any all divmod Exception ValueError TypeError KeyError IndexError LookupError ZeroDivisionError "
    "ArithmeticError OverflowError RuntimeError NotImplementedError AttributeError StopIteration".split()
)
METHODS = set(
    "append clear copy count endswith extend find get index insert isalnum isalpha isdigit islower isspace isupper "
    "items join keys ljust lower lstrip partition pop remove replace reverse rfind rjust rpartition rsplit rstrip "
    "setdefault split splitlines startswith strip update upper values zfill bit_length".split()
)
WORDS = re.compile(
    r"\b(type|typing|typing_extensions|enum|Enum|IntEnum|StrEnum|Flag|IntFlag|Generic|Protocol|ABC|ABCMeta|namedtuple"
    r"|NamedTuple|TypedDict|TYPE_CHECKING|abstractmethod)\b|dataclass|overload|contextmanager"
)


def bound_names(tree):
    for node in ast.walk(tree):
        if isinstance(node, ast.arg):
            yield node.arg
        elif isinstance(node, ast.Name) and isinstance(node.ctx, ast.Store):
            yield node.id
        elif isinstance(node, (ast.FunctionDef, ast.ClassDef)):
            yield node.name


class LanguageTest(unittest.TestCase):
    def setUp(self):
        self.texts = {path: path.read_bytes().decode("ascii") for path in FILES}
        self.trees = {path: ast.parse(text) for path, text in self.texts.items()}

    def nodes(self, kind):
        return [(path, node) for path, tree in self.trees.items() for node in ast.walk(tree) if isinstance(node, kind)]

    def test_the_package_holds_plain_files_alone(self):
        others = [path for path in PACKAGE.rglob("*") if path.is_file() and path.suffix not in (".py", ".pyc")]
        self.assertEqual(others, [])
        self.assertIn(PACKAGE / "__init__.py", FILES)
        for path in FILES:
            self.assertRegex(path.name, r"^(__init__|[a-z][a-z0-9_]*)\.py$")

    def test_signs_and_sizes(self):
        for path, text in self.texts.items():
            self.assertRegex(text, r"\A[ -~\n]*\Z")
            self.assertLessEqual(len(text.splitlines()), 400, path)
            self.assertLessEqual(max(len(line) for line in text.splitlines()), 120, path)
            self.assertIsNone(WORDS.search(text), path)
        for path, node in self.nodes(ast.FunctionDef):
            self.assertLessEqual(node.end_lineno - node.lineno + 1, 40, (path, node.name))

    def test_forms(self):
        for path, node in self.nodes(ast.AST):
            self.assertIn(type(node).__name__, NODES, (path, getattr(node, "lineno", 0)))
        for path, node in self.nodes(ast.Expr):
            at_top = node is self.trees[path].body[0]
            self.assertTrue(at_top or isinstance(node.value, ast.Call), (path, node.lineno))
        for path, node in self.nodes(ast.Assign):
            self.assertEqual(len(node.targets), 1, (path, node.lineno))
        for path, node in self.nodes((ast.For, ast.While)):
            self.assertEqual(node.orelse, [], (path, node.lineno))
        for path, node in self.nodes((ast.FunctionDef, ast.ClassDef)):
            self.assertEqual(node.decorator_list, [], (path, node.lineno))

    def test_values(self):
        for path, node in self.nodes(ast.Constant):
            self.assertIn(type(node.value), (int, str, bool, type(None)), (path, node.lineno))
            if isinstance(node.value, str):
                self.assertNotIn("%", node.value, (path, node.lineno))
        for path, node in self.nodes(ast.BinOp):
            if isinstance(node.op, ast.Pow):
                self.assertIsInstance(node.right, ast.Constant, (path, node.lineno))
                self.assertLessEqual(node.right.value, 64, (path, node.lineno))
        for path, node in self.nodes(ast.Compare):
            if any(isinstance(op, (ast.Is, ast.IsNot)) for op in node.ops):
                self.assertIn(ast.unparse(node.comparators[0]), ("None", "True", "False"), (path, node.lineno))

    def test_imports(self):
        self.assertEqual(self.nodes(ast.Import), [])
        for path, node in self.nodes(ast.ImportFrom):
            self.assertEqual(node.level, 0, path)
            self.assertRegex(node.module, r"^ringfigures\.[a-z_]+$")
            source = self.trees[PACKAGE / (node.module.split(".")[1] + ".py")]
            for alias in node.names:
                self.assertIn(alias.name, set(bound_names(source)), path)

    def test_no_two_files_draw_from_one_another(self):
        draws = {path.stem: [] for path in FILES}
        for path, node in self.nodes(ast.ImportFrom):
            draws[path.stem].append(node.module.split(".")[1])
        self.assertEqual(draws["__init__"], [])
        while draws:
            free = [name for name in draws if not any(other in draws for other in draws[name])]
            self.assertNotEqual(free, [], draws)
            for name in free:
                draws.pop(name)

    def test_locals_are_not_called_like_an_import_or_a_class(self):
        for path, tree in self.trees.items():
            taken = {alias.name for node in tree.body if isinstance(node, ast.ImportFrom) for alias in node.names}
            taken |= {node.name for node in tree.body if isinstance(node, ast.ClassDef)}
            for node in tree.body:
                if isinstance(node, ast.FunctionDef):
                    self.assertEqual(taken & set(bound_names(node)), set(), (path, node.name))

    def test_names_at_the_top_are_bound_once(self):
        for path, tree in self.trees.items():
            names = [node.name for node in tree.body if isinstance(node, (ast.FunctionDef, ast.ClassDef))]
            names += [node.targets[0].id for node in tree.body if isinstance(node, ast.Assign)]
            names += [alias.name for node in tree.body if isinstance(node, ast.ImportFrom) for alias in node.names]
            self.assertEqual(sorted(names), sorted(set(names)), path)

    def test_names(self):
        for path, tree in self.trees.items():
            for name in bound_names(tree):
                self.assertRegex(name, r"^[A-Za-z][A-Za-z0-9_]*$|^__(init|eq|repr|str|len)__$")
                self.assertFalse(hasattr(builtins, name), (path, name))
        for path, node in self.nodes(ast.Name):
            if hasattr(builtins, node.id):
                self.assertIn(node.id, OWN_OF_PYTHON, (path, node.lineno))
        for path, node in self.nodes(ast.Attribute):
            self.assertIn(node.attr, METHODS, (path, node.lineno))


if __name__ == "__main__":
    unittest.main()
