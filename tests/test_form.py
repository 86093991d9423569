"""The rules of LANGUAGE.md that can be seen in the package's files by themselves."""

import ast
import re
import unittest
from pathlib import Path

PACKAGE = Path(__file__).resolve().parent.parent / "depot"

BUILT_IN = """len range enumerate zip min max sum abs sorted reversed int str bool list tuple dict set frozenset isinstance
ord repr any all divmod Exception ValueError TypeError KeyError IndexError LookupError ZeroDivisionError ArithmeticError
OverflowError RuntimeError NotImplementedError AttributeError StopIteration""".split()

METHODS = """append clear copy count endswith extend find get index insert isalnum isalpha isdigit islower isspace isupper
items join keys ljust lower lstrip partition pop remove replace reverse rfind rjust rpartition rsplit rstrip setdefault
split splitlines startswith strip update upper values zfill bit_length""".split()

TWO_UNDERSCORES = ["__init__", "__eq__", "__repr__", "__str__", "__len__"]

NODES = """Module Expr Constant Name Load Store ImportFrom alias FunctionDef arguments arg Return Lambda ClassDef Assign
AugAssign If While For Break Continue Pass Raise Try ExceptHandler List Tuple Dict Set ListComp comprehension BinOp Add
Sub Mult FloorDiv Mod Pow BitAnd BitOr BitXor LShift RShift UnaryOp USub UAdd Not Invert BoolOp And Or Compare Eq NotEq
Lt LtE Gt GtE Is IsNot In NotIn IfExp Call keyword Attribute Subscript Slice JoinedStr FormattedValue""".split()

NOWHERE = re.compile(
    r"\b(type|typing|typing_extensions|enum|Enum|IntEnum|StrEnum|Flag|IntFlag|Generic|Protocol|ABC|ABCMeta|namedtuple"
    r"|NamedTuple|TypedDict|TYPE_CHECKING|abstractmethod)\b|dataclass|overload|contextmanager"
)

NOT_USED = """register mro elements open input version_info with_traceback add_note format format_map""".split()

FILE_NAMES_OUT = re.compile(r"test|tests|testing|test_.*|site|conftest|sitecustomize|usercustomize")


def files():
    return sorted(PACKAGE.rglob("*.py"))


def trees():
    return {path: ast.parse(path.read_text("utf-8")) for path in files()}


def nodes():
    return [(path, node) for path, tree in trees().items() for node in ast.walk(tree)]


def own_names(tree):
    """Every name that a file binds, wherever in it."""
    names = []
    for node in ast.walk(tree):
        if isinstance(node, (ast.FunctionDef, ast.ClassDef)):
            names.append(node.name)
        elif isinstance(node, ast.arg):
            names.append(node.arg)
        elif isinstance(node, ast.alias):
            names.append(node.asname or node.name)
        elif isinstance(node, ast.ExceptHandler) and node.name:
            names.append(node.name)
        elif isinstance(node, ast.Name) and isinstance(node.ctx, ast.Store):
            names.append(node.id)
    return names


def top_names(tree):
    names = []
    for node in tree.body:
        if isinstance(node, (ast.FunctionDef, ast.ClassDef)):
            names.append(node.name)
        elif isinstance(node, ast.Assign):
            names.append(node.targets[0].id)
    return names


def own_attributes():
    """Methods of the package's classes, and the values that they give to self."""
    names = []
    for path, node in nodes():
        if isinstance(node, ast.ClassDef):
            names += [part.name for part in node.body if isinstance(part, ast.FunctionDef)]
        if isinstance(node, ast.Attribute) and isinstance(node.ctx, ast.Store):
            names.append(node.attr)
    return names


class Form(unittest.TestCase):
    def bad(self, rule, path, line):
        self.fail(f"{rule}: {path.name}:{line}")

    def test_files(self):
        self.assertIn(PACKAGE / "__init__.py", files())
        for path in PACKAGE.rglob("*"):
            if "__pycache__" in path.parts or path.is_dir():
                continue
            if not re.fullmatch(r"[a-z0-9_]+\.py", path.name) or FILE_NAMES_OUT.fullmatch(path.stem):
                self.bad("L1, L14", path, 0)

    def test_signs_and_sizes(self):
        for path in files():
            data = path.read_bytes()
            rows = data.decode("utf-8").split("\n")
            self.assertLessEqual(len(rows), 401, path.name)
            for line, row in enumerate(rows, start=1):
                if len(row) > 120 or not all(" " <= sign <= "~" for sign in row):
                    self.bad("L10, L14", path, line)
                if NOWHERE.search(row):
                    self.bad("L17", path, line)
        for path, node in nodes():
            if isinstance(node, ast.FunctionDef) and node.end_lineno - node.lineno >= 40:
                self.bad("L10", path, node.lineno)

    def test_only_the_language_that_is_kept_to(self):
        for path, node in nodes():
            line = getattr(node, "lineno", 0)
            if node.__class__.__name__ not in NODES:
                self.bad("L4 to L7, " + node.__class__.__name__, path, line)
            if isinstance(node, (ast.FunctionDef, ast.ClassDef)) and node.decorator_list:
                self.bad("L4, L5", path, line)
            if isinstance(node, ast.arguments) and (node.vararg or node.kwarg or node.kwonlyargs or node.posonlyargs):
                self.bad("L4", path, line)
            if isinstance(node, (ast.For, ast.While)) and node.orelse or isinstance(node, ast.Try) and node.finalbody:
                self.bad("L6", path, line)
            if isinstance(node, ast.Assign) and len(node.targets) != 1:
                self.bad("L6", path, line)
            if isinstance(node, ast.ListComp) and (len(node.generators) != 1 or len(node.generators[0].ifs) > 1):
                self.bad("L7", path, line)
            if isinstance(node, ast.Constant) and isinstance(node.value, (float, complex, bytes)):
                self.bad("L7", path, line)

    def test_the_top_of_a_module(self):
        for path, tree in trees().items():
            for number, node in enumerate(tree.body):
                docstring = number == 0 and isinstance(node, ast.Expr) and isinstance(node.value, ast.Constant)
                kept = (ast.ImportFrom, ast.FunctionDef, ast.ClassDef, ast.Assign)
                if not docstring and not isinstance(node, kept):
                    self.bad("L3", path, node.lineno)
            names = top_names(tree)
            self.assertEqual(len(names), len(set(names)), "L15: " + path.name)

    def test_imports(self):
        tops = {"depot." + path.stem: top_names(tree) for path, tree in trees().items()}
        drawn = {}
        for path, tree in trees().items():
            drawn["depot." + path.stem] = []
            for node in ast.walk(tree):
                if isinstance(node, ast.ImportFrom):
                    if node not in tree.body or node.level or node.module not in tops:
                        self.bad("L2", path, node.lineno)
                    if not all(part.name in tops[node.module] for part in node.names):
                        self.bad("L16", path, node.lineno)
                    drawn["depot." + path.stem].append(node.module)
        while drawn:
            free = [name for name in drawn if not any(other in drawn for other in drawn[name])]
            self.assertTrue(free, "L16: files draw from one another: " + ", ".join(drawn))
            drawn = {name: others for name, others in drawn.items() if name not in free}

    def test_names(self):
        for path, tree in trees().items():
            own = own_names(tree)
            for name in own:
                if not re.fullmatch(r"[A-Za-z][A-Za-z0-9_]*", name) and name not in TWO_UNDERSCORES:
                    self.bad("L12, " + name, path, 0)
                if name in NOT_USED or name in BUILT_IN:
                    self.bad("L8, L17, " + name, path, 0)
            for node in ast.walk(tree):
                if isinstance(node, ast.Name) and node.id not in own and node.id not in BUILT_IN:
                    self.bad("L8, " + node.id, path, node.lineno)

    def test_attributes(self):
        own = own_attributes()
        for path, node in nodes():
            if isinstance(node, ast.Attribute):
                if node.attr not in METHODS + own + ["__init__"] or node.attr in NOT_USED:
                    self.bad("L25, " + node.attr, path, node.lineno)

    def test_is_stands_beside_none_true_and_false_alone(self):
        for path, node in nodes():
            if isinstance(node, ast.Compare):
                for sign, right in zip(node.ops, node.comparators):
                    if isinstance(sign, (ast.Is, ast.IsNot)):
                        if not isinstance(right, ast.Constant) or right.value not in (None, True, False):
                            self.bad("L20", path, node.lineno)


if __name__ == "__main__":
    unittest.main()
