"""The package keeps to plain rules of form: imports, module level, names, sizes, signs."""

import ast
import builtins
import re
import unittest
from pathlib import Path

PACKAGE = Path(__file__).resolve().parent.parent / "thankways"
FILES = sorted(PACKAGE.rglob("*.py"))
BARRED = re.compile(
    r"\b(type|typing|typing_extensions|enum|Enum|IntEnum|StrEnum|Flag|IntFlag|Generic|Protocol|ABC|ABCMeta|namedtuple"
    r"|NamedTuple|TypedDict|TYPE_CHECKING|abstractmethod)\b|dataclass|overload|contextmanager"
)
NAMES_BARRED = {"register", "mro", "elements", "open", "input", "law", "version_info", "with_traceback", "add_note"}
BUILTINS = set(
    "len range enumerate zip min max sum abs sorted reversed int str bool bytes list tuple dict set frozenset isinstance"
    " ord chr repr any all divmod Exception ValueError TypeError KeyError IndexError LookupError ZeroDivisionError"
    " ArithmeticError OverflowError RuntimeError NotImplementedError AttributeError StopIteration NotImplemented iter"
    " next super property staticmethod classmethod".split()
)
METHODS = set(
    "append clear copy count endswith extend find get index insert isalnum isalpha isdigit islower isspace isupper items"
    " join keys ljust lower lstrip partition pop remove replace reverse rfind rjust rpartition rsplit rstrip setdefault"
    " split splitlines startswith strip update upper values zfill bit_length".split()
)
# These are iterated on the spot, in a loop or by one of those that take them.
ITERATED = ("zip", "enumerate", "range", "reversed", "items", "keys", "values")
TAKERS = ("list", "tuple", "dict", "sorted", "sum", "any", "all", "enumerate", "zip")
DOUBLE = ("__init__", "__eq__", "__repr__", "__str__", "__len__")
BARRED_NODES = (
    ast.Global, ast.AsyncFunctionDef, ast.AsyncFor, ast.AsyncWith, ast.Await, ast.Div, ast.Import, ast.GeneratorExp,
    ast.Try, ast.Lambda, ast.AnnAssign, ast.Set, ast.NamedExpr, ast.Assert, ast.Match, ast.With,
)


def is_docstring(node):
    return isinstance(node, ast.Expr) and isinstance(node.value, ast.Constant) and isinstance(node.value.value, str)


def bound_names(tree):
    """The names bound at module level, as often as they are."""
    names = []
    for node in tree.body:
        if isinstance(node, ast.ImportFrom):
            names += [alias.asname or alias.name for alias in node.names]
        elif isinstance(node, (ast.FunctionDef, ast.ClassDef)):
            names.append(node.name)
        elif isinstance(node, ast.Assign):
            names += [target.id for target in node.targets]
    return names


def local_names(tree):
    names = {node.id for node in ast.walk(tree) if isinstance(node, ast.Name) and not isinstance(node.ctx, ast.Load)}
    return names | {node.arg for node in ast.walk(tree) if isinstance(node, ast.arg)}


class TestLanguage(unittest.TestCase):
    def setUp(self):
        self.texts = {path: path.read_bytes().decode("ascii") for path in FILES}
        self.trees = {path: ast.parse(text) for path, text in self.texts.items()}

    def nodes(self):
        for path, tree in self.trees.items():
            for node in ast.walk(tree):
                yield path, node

    def test_the_folder_holds_files_of_python_alone(self):
        self.assertIn(PACKAGE / "__init__.py", FILES)
        for path in PACKAGE.rglob("*"):
            if "__pycache__" not in path.parts:
                self.assertRegex(path.name, r"\A([a-z][a-z0-9_]*|__init__|__main__)\.py\Z")

    def test_signs_words_and_sizes(self):
        for path, text in self.texts.items():
            lines = text.split("\n")
            self.assertLessEqual(len(lines), 400, path)
            for number, line in enumerate(lines, 1):
                self.assertRegex(line, r"\A[ -~]{0,120}\Z", (path, number))
                self.assertIsNone(BARRED.search(line), (path, number))

    def test_functions_are_small_and_bare(self):
        for path, node in self.nodes():
            if isinstance(node, ast.FunctionDef):
                self.assertLessEqual(node.end_lineno - node.lineno + 1, 40, (path, node.name))
                self.assertEqual(node.args.posonlyargs, [], (path, node.name))

    def test_module_level(self):
        for path, tree in self.trees.items():
            self.assertTrue(is_docstring(tree.body[0]), path)
            for node in tree.body[1:]:
                wanted = isinstance(node, (ast.ImportFrom, ast.FunctionDef, ast.ClassDef, ast.Assign))
                self.assertTrue(wanted, (path, node.lineno))
                if isinstance(node, ast.Assign):
                    self.assertEqual([isinstance(target, ast.Name) for target in node.targets], [True], path)
                if isinstance(node, ast.ImportFrom):
                    self.assertEqual(node.level, 0, path)
                    self.assertRegex(node.module, r"\Athankways\.[a-z_]+\Z")

    def test_a_name_is_bound_once(self):
        for path, tree in self.trees.items():
            names = bound_names(tree)
            self.assertEqual(sorted(names), sorted(set(names)), path)
            inner = set().union(*[local_names(node) for node in tree.body if not isinstance(node, ast.Assign)])
            self.assertEqual(inner & set(names), set(), path)

    def test_names_are_plain(self):
        for path, tree in self.trees.items():
            for name in set(bound_names(tree)) | local_names(tree):
                self.assertRegex(name, r"\A[A-Za-z]\w*\Z", path)
                self.assertNotIn(name, BUILTINS | NAMES_BARRED, path)
                self.assertNotIn(name, dir(builtins), path)

    def test_no_barred_statement_sign_or_number(self):
        for path, node in self.nodes():
            self.assertNotIsInstance(node, BARRED_NODES, path)
            if isinstance(node, ast.Constant):
                self.assertNotIsInstance(node.value, (float, complex), path)
                if isinstance(node.value, str):
                    self.assertNotIn("%", node.value, path)

    def test_powers(self):
        for path, node in self.nodes():
            if isinstance(node, (ast.BinOp, ast.AugAssign)) and isinstance(node.op, ast.Pow):
                power = node.right if isinstance(node, ast.BinOp) else node.value
                self.assertIsInstance(power, ast.Constant, (path, node.lineno))
                self.assertIn(power.value, range(65), (path, node.lineno))

    def test_builtins(self):
        for path, tree in self.trees.items():
            there = set(bound_names(tree)) | local_names(tree) | BUILTINS
            for node in ast.walk(tree):
                if isinstance(node, ast.Name) and isinstance(node.ctx, ast.Load):
                    self.assertIn(node.id, there, (path, node.lineno))

    def test_methods(self):
        own = {node.name for _, node in self.nodes() if isinstance(node, ast.FunctionDef)}
        for path, node in self.nodes():
            if isinstance(node, ast.Call) and isinstance(node.func, ast.Attribute):
                self.assertIn(node.func.attr, METHODS | own | {"__init__"}, (path, node.lineno))
                if node.func.attr in METHODS:
                    self.assertEqual(node.keywords, [], (path, node.lineno))
            if isinstance(node, ast.FunctionDef) and node.name.startswith("_"):
                self.assertIn(node.name, DOUBLE, path)

    def test_no_name_is_a_method_here_and_an_attribute_there(self):
        methods, attributes = set(), set()
        for _, node in self.nodes():
            if isinstance(node, ast.ClassDef):
                methods |= {part.name for part in node.body if isinstance(part, ast.FunctionDef)}
            if isinstance(node, ast.Attribute) and isinstance(node.ctx, ast.Store):
                attributes.add(node.attr)
        self.assertEqual(methods & attributes, set())
        self.assertEqual((methods | attributes) & (METHODS - {"count", "index", "find", "get"}), set())

    def test_is(self):
        for path, node in self.nodes():
            if isinstance(node, ast.Compare):
                for op, right in zip(node.ops, node.comparators):
                    if isinstance(op, (ast.Is, ast.IsNot)):
                        self.assertIsInstance(right, ast.Constant, (path, node.lineno))
                        self.assertIn(right.value, (None, True, False), (path, node.lineno))

    def test_what_is_iterated_at_once_and_sets_are_not_kept(self):
        for path, tree in self.trees.items():
            fits = set()
            for node in ast.walk(tree):
                if isinstance(node, (ast.For, ast.comprehension)):
                    fits.add(node.iter)
                if isinstance(node, ast.Call) and isinstance(node.func, ast.Name) and node.func.id in TAKERS:
                    fits |= set(node.args[:1]) | set(node.args if node.func.id == "zip" else ())
                if isinstance(node, ast.Call) and isinstance(node.func, ast.Name) and node.func.id in ("sorted", "len"):
                    fits |= {part for part in ast.walk(node.args[0]) if isinstance(part, (ast.Call, ast.BinOp, ast.SetComp))}
            for node in ast.walk(tree):
                name = None
                if isinstance(node, ast.Call):
                    name = node.func.id if isinstance(node.func, ast.Name) else getattr(node.func, "attr", None)
                if name in ITERATED + ("set",) or isinstance(node, ast.SetComp):
                    self.assertIn(node, fits, (path, node.lineno))

    def test_no_two_files_import_from_each_other(self):
        above = {}
        for path, tree in self.trees.items():
            above[path.stem] = {node.module.split(".")[1] for node in tree.body if isinstance(node, ast.ImportFrom)}
        left = dict(above)
        while left:
            free = [name for name in left if not left[name] & set(left)]
            self.assertNotEqual(free, [], left)
            for name in free:
                del left[name]
        for path, tree in self.trees.items():
            for node in tree.body:
                if isinstance(node, ast.ImportFrom):
                    there = self.trees[PACKAGE / (node.module.split(".")[1] + ".py")]
                    defined = {part.name for part in there.body if isinstance(part, (ast.FunctionDef, ast.ClassDef))}
                    defined |= {part.targets[0].id for part in there.body if isinstance(part, ast.Assign)}
                    self.assertLessEqual({alias.name for alias in node.names}, defined, path)

    def test_calls_of_own_functions_pass_what_they_take(self):
        takes = {}
        for _, tree in self.trees.items():
            for node in tree.body:
                if isinstance(node, ast.FunctionDef):
                    takes[node.name] = node.args
        for path, node in self.nodes():
            if isinstance(node, ast.Call) and isinstance(node.func, ast.Name) and node.func.id in takes:
                args = takes[node.func.id]
                least = len(args.args) - len(args.defaults)
                self.assertIn(len(node.args), range(least, len(args.args) + 1), (path, node.lineno))
                self.assertLessEqual({word.arg for word in node.keywords}, {arg.arg for arg in args.kwonlyargs}, path)

    def test_no_import_is_left_unused(self):
        for path, tree in self.trees.items():
            used = {node.id for node in ast.walk(tree) if isinstance(node, ast.Name)}
            for node in tree.body:
                if isinstance(node, ast.ImportFrom):
                    self.assertLessEqual({alias.asname or alias.name for alias in node.names}, used, path)
