"""The package keeps to plain rules of form: imports, module level, names, sizes, signs."""

import ast
import builtins
import re
import unittest
from pathlib import Path

PACKAGE = Path(__file__).resolve().parent.parent / "thankways"
FILES = sorted(PACKAGE.rglob("*.py"))
BARRED = re.compile(
    r"\b(type|typing|typing_extensions|enum|Enum|IntEnum|StrEnum|Flag|IntFlag|Generic|Protocol|ABC|ABCMeta|namedtuple"
    r"|NamedTuple|TypedDict|TYPE_CHECKING|abstractmethod)\b|dataclass|overload|contextmanager"
)
NAMES_BARRED = {"register", "mro", "elements", "open", "input", "law", "version_info", "with_traceback", "add_note"}
BUILTINS = set(
    "len range enumerate zip min max sum abs sorted reversed int str bool bytes list tuple dict set frozenset isinstance"
    " ord chr repr any all divmod Exception ValueError TypeError KeyError IndexError LookupError ZeroDivisionError"
    " ArithmeticError OverflowError RuntimeError NotImplementedError AttributeError StopIteration NotImplemented iter"
    " next super property staticmethod classmethod".split()
)
BARRED_NODES = (
    ast.Global, ast.AsyncFunctionDef, ast.AsyncFor, ast.AsyncWith, ast.Await, ast.Div, ast.Import,
)


def is_docstring(node):
    return isinstance(node, ast.Expr) and isinstance(node.value, ast.Constant) and isinstance(node.value.value, str)


def bound_names(tree):
    """The names bound at module level, as often as they are."""
    names = []
    for node in tree.body:
        if isinstance(node, ast.ImportFrom):
            names += [alias.asname or alias.name for alias in node.names]
        elif isinstance(node, (ast.FunctionDef, ast.ClassDef)):
            names.append(node.name)
        elif isinstance(node, ast.Assign):
            names += [target.id for target in node.targets]
    return names


def local_names(tree):
    names = {node.id for node in ast.walk(tree) if isinstance(node, ast.Name) and not isinstance(node.ctx, ast.Load)}
    return names | {node.arg for node in ast.walk(tree) if isinstance(node, ast.arg)}


class TestLanguage(unittest.TestCase):
    def setUp(self):
        self.texts = {path: path.read_bytes().decode("ascii") for path in FILES}
        self.trees = {path: ast.parse(text) for path, text in self.texts.items()}

    def nodes(self):
        for path, tree in self.trees.items():
            for node in ast.walk(tree):
                yield path, node

    def test_the_folder_holds_files_of_python_alone(self):
        self.assertIn(PACKAGE / "__init__.py", FILES)
        for path in PACKAGE.rglob("*"):
            if "__pycache__" not in path.parts:
                self.assertRegex(path.name, r"\A([a-z][a-z0-9_]*|__init__|__main__)\.py\Z")

    def test_signs_words_and_sizes(self):
        for path, text in self.texts.items():
            lines = text.split("\n")
            self.assertLessEqual(len(lines), 400, path)
            for number, line in enumerate(lines, 1):
                self.assertRegex(line, r"\A[ -~]{0,120}\Z", (path, number))
                self.assertIsNone(BARRED.search(line), (path, number))

    def test_functions_are_small_and_bare(self):
        for path, node in self.nodes():
            if isinstance(node, ast.FunctionDef):
                self.assertLessEqual(node.end_lineno - node.lineno + 1, 40, (path, node.name))
                self.assertEqual(node.args.posonlyargs, [], (path, node.name))

    def test_module_level(self):
        for path, tree in self.trees.items():
            self.assertTrue(is_docstring(tree.body[0]), path)
            for node in tree.body[1:]:
                wanted = isinstance(node, (ast.ImportFrom, ast.FunctionDef, ast.ClassDef, ast.Assign))
                self.assertTrue(wanted, (path, node.lineno))
                if isinstance(node, ast.Assign):
                    self.assertEqual([isinstance(target, ast.Name) for target in node.targets], [True], path)
                if isinstance(node, ast.ImportFrom):
                    self.assertEqual(node.level, 0, path)
                    self.assertRegex(node.module, r"\Athankways\.[a-z_]+\Z")

    def test_a_name_is_bound_once(self):
        for path, tree in self.trees.items():
            names = bound_names(tree)
            self.assertEqual(sorted(names), sorted(set(names)), path)
            inner = set().union(*[local_names(node) for node in tree.body if not isinstance(node, ast.Assign)])
            self.assertEqual(inner & set(names), set(), path)

    def test_names_are_plain(self):
        for path, tree in self.trees.items():
            for name in set(bound_names(tree)) | local_names(tree):
                self.assertRegex(name, r"\A[A-Za-z]\w*\Z", path)
                self.assertNotIn(name, BUILTINS | NAMES_BARRED, path)
                self.assertNotIn(name, dir(builtins), path)

    def test_no_barred_statement_sign_or_number(self):
        for path, node in self.nodes():
            self.assertNotIsInstance(node, BARRED_NODES, path)
            if isinstance(node, ast.Constant):
                self.assertNotIsInstance(node.value, (float, complex), path)
                if isinstance(node.value, str):
                    self.assertNotIn("%", node.value, path)

    def test_powers(self):
        for path, node in self.nodes():
            if isinstance(node, (ast.BinOp, ast.AugAssign)) and isinstance(node.op, ast.Pow):
                power = node.right if isinstance(node, ast.BinOp) else node.value
                self.assertIsInstance(power, ast.Constant, (path, node.lineno))
                self.assertIn(power.value, range(65), (path, node.lineno))

    def test_builtins(self):
        for path, tree in self.trees.items():
            there = set(bound_names(tree)) | local_names(tree) | BUILTINS
            for node in ast.walk(tree):
                if isinstance(node, ast.Name) and isinstance(node.ctx, ast.Load):
                    self.assertIn(node.id, there, (path, node.lineno))
