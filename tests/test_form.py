"""The rules of LANGUAGE.md that can be seen in the package's files by themselves."""

import ast
import builtins
import re
import unittest
from pathlib import Path

PACKAGE = Path(__file__).resolve().parent.parent / "depot"

BUILT_IN = """len range enumerate zip min max sum abs sorted reversed int str bool list tuple dict set frozenset isinstance
ord repr any all divmod Exception ValueError TypeError KeyError IndexError LookupError ZeroDivisionError ArithmeticError
OverflowError RuntimeError NotImplementedError AttributeError StopIteration""".split()

METHODS = """append clear copy count endswith extend find get index insert isalnum isalpha isdigit islower isspace isupper
items join keys ljust lower lstrip partition pop remove replace reverse rfind rjust rpartition rsplit rstrip setdefault
split splitlines startswith strip update upper values zfill bit_length""".split()

TWO_UNDERSCORES = ["__init__", "__eq__", "__repr__", "__str__", "__len__"]

NODES = """Module Expr Constant Name Load Store ImportFrom alias FunctionDef arguments arg Return Lambda ClassDef Assign
AugAssign If While For Break Continue Pass Raise Try ExceptHandler List Tuple Dict Set ListComp comprehension BinOp Add
Sub Mult FloorDiv Mod Pow BitAnd BitOr BitXor LShift RShift UnaryOp USub UAdd Not Invert BoolOp And Or Compare Eq NotEq
Lt LtE Gt GtE Is IsNot In NotIn IfExp Call keyword Attribute Subscript Slice JoinedStr FormattedValue""".split()

NOWHERE = re.compile(
    r"\b(type|typing|typing_extensions|enum|Enum|IntEnum|StrEnum|Flag|IntFlag|Generic|Protocol|ABC|ABCMeta|namedtuple"
    r"|NamedTuple|TypedDict|TYPE_CHECKING|abstractmethod)\b|dataclass|overload|contextmanager"
)

NOT_USED = """register mro elements open input version_info with_traceback add_note format format_map""".split()

KEYWORDS = {"sorted": ["key", "reverse"], "min": ["key", "default"], "max": ["key", "default"], "sum": ["start"],
            "enumerate": ["start"], "zip": ["strict"]}

WALKED = ["zip", "enumerate", "reversed", "range"]

WALKERS = ["list", "tuple", "dict", "sorted", "sum", "any", "all", "enumerate", "zip", "min", "max"]

VALUES_IN = ["count", "index", "title", "find", "get", "join", "lower", "upper", "split", "strip", "copy", "add"]

FILE_NAMES_OUT = re.compile(r"test|tests|testing|test_.*|site|conftest|sitecustomize|usercustomize")


def files():
    return sorted(PACKAGE.rglob("*.py"))


def trees():
    return {path: ast.parse(path.read_text("utf-8")) for path in files()}


def nodes():
    return [(path, node) for path, tree in trees().items() for node in ast.walk(tree)]


def own_names(tree):
    """Every name that a file binds, wherever in it."""
    names = []
    for node in ast.walk(tree):
        if isinstance(node, (ast.FunctionDef, ast.ClassDef)):
            names.append(node.name)
        elif isinstance(node, ast.arg):
            names.append(node.arg)
        elif isinstance(node, ast.alias):
            names.append(node.asname or node.name)
        elif isinstance(node, ast.ExceptHandler) and node.name:
            names.append(node.name)
        elif isinstance(node, ast.Name) and isinstance(node.ctx, ast.Store):
            names.append(node.id)
    return names


def top_names(tree):
    names = []
    for node in tree.body:
        if isinstance(node, (ast.FunctionDef, ast.ClassDef)):
            names.append(node.name)
        elif isinstance(node, ast.Assign):
            names.append(node.targets[0].id)
    return names


def own_attributes():
    """Methods of the package's classes, and the values that they give to self."""
    names = []
    for path, node in nodes():
        if isinstance(node, ast.ClassDef):
            names += [part.name for part in node.body if isinstance(part, ast.FunctionDef)]
        if isinstance(node, ast.Attribute) and isinstance(node.ctx, ast.Store):
            names.append(node.attr)
    return names


def methods():
    """Pairs of a class and the name of a method of its own, over all files."""
    classes = [node for path, node in nodes() if isinstance(node, ast.ClassDef)]
    return [(node.name, part.name) for node in classes for part in node.body if isinstance(part, ast.FunctionDef)]


def stored():
    """The names of all values that objects are given."""
    return {node.attr for path, node in nodes() if isinstance(node, ast.Attribute) and isinstance(node.ctx, ast.Store)}


def names_of_values():
    kinds = ("", 0, [], {}, set(), b"", (), True)
    return {name for thing in kinds for name in dir(thing) if not name.startswith("__")}


def parents(tree):
    return {part: node for node in ast.walk(tree) for part in ast.iter_child_nodes(node)}


def called(node):
    """The name that is called, of a plain call or of a method's."""
    if not isinstance(node, ast.Call):
        return None
    return node.func.attr if isinstance(node.func, ast.Attribute) else getattr(node.func, "id", None)


def locals_of(tree):
    names = [node.arg for node in ast.walk(tree) if isinstance(node, ast.arg)]
    for function in ast.walk(tree):
        if isinstance(function, (ast.FunctionDef, ast.Lambda, ast.ListComp)):
            stores = [node for node in ast.walk(function) if isinstance(node, ast.Name)]
            names += [node.id for node in stores if isinstance(node.ctx, ast.Store)]
    return names


class Form(unittest.TestCase):
    def bad(self, rule, path, line):
        self.fail(f"{rule}: {path.name}:{line}")

    def test_files(self):
        self.assertIn(PACKAGE / "__init__.py", files())
        for path in PACKAGE.rglob("*"):
            if "__pycache__" in path.parts or path.is_dir():
                continue
            if not re.fullmatch(r"[a-z0-9_]+\.py", path.name) or FILE_NAMES_OUT.fullmatch(path.stem):
                self.bad("L1, L14", path, 0)

    def test_signs_and_sizes(self):
        for path in files():
            data = path.read_bytes()
            rows = data.decode("utf-8").split("\n")
            self.assertLessEqual(len(rows), 401, path.name)
            for line, row in enumerate(rows, start=1):
                if len(row) > 120 or not all(" " <= sign <= "~" for sign in row):
                    self.bad("L10, L14", path, line)
                if NOWHERE.search(row):
                    self.bad("L17", path, line)
        for path, node in nodes():
            if isinstance(node, ast.FunctionDef) and node.end_lineno - node.lineno >= 40:
                self.bad("L10", path, node.lineno)

    def test_only_the_language_that_is_kept_to(self):
        for path, node in nodes():
            line = getattr(node, "lineno", 0)
            if node.__class__.__name__ not in NODES:
                self.bad("L4 to L7, " + node.__class__.__name__, path, line)
            if isinstance(node, (ast.FunctionDef, ast.ClassDef)) and node.decorator_list:
                self.bad("L4, L5", path, line)
            if isinstance(node, ast.arguments) and (node.vararg or node.kwarg or node.kwonlyargs or node.posonlyargs):
                self.bad("L4", path, line)
            if isinstance(node, (ast.For, ast.While)) and node.orelse or isinstance(node, ast.Try) and node.finalbody:
                self.bad("L6", path, line)
            if isinstance(node, ast.Assign) and len(node.targets) != 1:
                self.bad("L6", path, line)
            if isinstance(node, ast.ListComp) and (len(node.generators) != 1 or len(node.generators[0].ifs) > 1):
                self.bad("L7", path, line)
            if isinstance(node, ast.Constant) and isinstance(node.value, (float, complex, bytes)):
                self.bad("L7", path, line)

    def test_the_top_of_a_module(self):
        for path, tree in trees().items():
            for number, node in enumerate(tree.body):
                docstring = number == 0 and isinstance(node, ast.Expr) and isinstance(node.value, ast.Constant)
                kept = (ast.ImportFrom, ast.FunctionDef, ast.ClassDef, ast.Assign)
                if not docstring and not isinstance(node, kept):
                    self.bad("L3", path, node.lineno)
            names = top_names(tree)
            self.assertEqual(len(names), len(set(names)), "L15: " + path.name)

    def test_imports(self):
        tops = {"depot." + path.stem: top_names(tree) for path, tree in trees().items()}
        drawn = {}
        for path, tree in trees().items():
            drawn["depot." + path.stem] = []
            for node in ast.walk(tree):
                if isinstance(node, ast.ImportFrom):
                    if node not in tree.body or node.level or node.module not in tops:
                        self.bad("L2", path, node.lineno)
                    if not all(part.name in tops[node.module] for part in node.names):
                        self.bad("L16", path, node.lineno)
                    drawn["depot." + path.stem].append(node.module)
        while drawn:
            free = [name for name in drawn if not any(other in drawn for other in drawn[name])]
            self.assertTrue(free, "L16: files draw from one another: " + ", ".join(drawn))
            drawn = {name: others for name, others in drawn.items() if name not in free}

    def test_names(self):
        for path, tree in trees().items():
            own = own_names(tree)
            for name in own:
                if not re.fullmatch(r"[A-Za-z][A-Za-z0-9_]*", name) and name not in TWO_UNDERSCORES:
                    self.bad("L12, " + name, path, 0)
                if name in NOT_USED or name in BUILT_IN:
                    self.bad("L8, L17, " + name, path, 0)
            for node in ast.walk(tree):
                if isinstance(node, ast.Name) and node.id not in own and node.id not in BUILT_IN:
                    self.bad("L8, " + node.id, path, node.lineno)

    def test_attributes(self):
        own = own_attributes()
        for path, node in nodes():
            if isinstance(node, ast.Attribute):
                if node.attr not in METHODS + own + ["__init__"] or node.attr in NOT_USED:
                    self.bad("L25, " + node.attr, path, node.lineno)

    def test_is_stands_beside_none_true_and_false_alone(self):
        for path, node in nodes():
            if isinstance(node, ast.Compare):
                for sign, right in zip(node.ops, node.comparators):
                    if isinstance(sign, (ast.Is, ast.IsNot)):
                        if not isinstance(right, ast.Constant) or right.value not in (None, True, False):
                            self.bad("L20", path, node.lineno)

    def test_statements_by_themselves_are_calls(self):
        for path, tree in trees().items():
            for node in ast.walk(tree):
                if isinstance(node, ast.Expr) and node != tree.body[0] and not isinstance(node.value, ast.Call):
                    self.bad("L6", path, node.lineno)

    def test_classes(self):
        for path, node in nodes():
            if isinstance(node, ast.ClassDef):
                if len(node.bases) > 1 or not all(isinstance(part, (ast.FunctionDef, ast.Pass)) for part in node.body):
                    self.bad("L5", path, node.lineno)
            if isinstance(node, ast.FunctionDef) and node.name == "__init__":
                if any(isinstance(part, ast.Return) for part in ast.walk(node)):
                    self.bad("L28", path, node.lineno)
        self.assertEqual(len(methods()), len(set(methods())), "L18: a method stands twice")
        names = {name for owner, name in methods()}
        self.assertEqual(sorted(names & stored()), [], "L18: a method here, a value there")
        free = names - set(METHODS) - {"add", "discard"} - set(TWO_UNDERSCORES)
        self.assertEqual(sorted(free & names_of_values()), [], "L26")
        self.assertEqual(sorted((stored() - set(VALUES_IN)) & (names_of_values() | {"args"})), [], "L26")

    def test_locals_bear_no_other_names(self):
        for path, tree in trees().items():
            taken = [node.name for node in ast.walk(tree) if isinstance(node, ast.ClassDef)]
            taken += [node.name for node in ast.walk(tree) if isinstance(node, ast.alias)]
            for name in locals_of(tree):
                if name in taken or hasattr(builtins, name):
                    self.bad("L15, " + name, path, 0)

    def test_no_annotations(self):
        for path, node in nodes():
            if isinstance(node, ast.arg) and node.annotation or isinstance(node, ast.FunctionDef) and node.returns:
                self.bad("L21", path, node.lineno)

    def test_keywords(self):
        for path, node in nodes():
            if isinstance(node, ast.Call):
                name = called(node)
                for keyword in node.keywords:
                    if name in BUILT_IN + METHODS and keyword.arg not in KEYWORDS.get(name, []):
                        self.bad("L22", path, node.lineno)

    def test_python_s_own_are_called_and_not_kept(self):
        for path, tree in trees().items():
            above = parents(tree)
            for node in ast.walk(tree):
                if isinstance(node, ast.Name) and node.id in BUILT_IN and hasattr(builtins, node.id):
                    over = above[node]
                    kept = (ast.ClassDef, ast.ExceptHandler, ast.keyword, ast.Tuple)
                    if not isinstance(over, (ast.Call,) + kept):
                        self.bad("L22, " + node.id, path, node.lineno)
                    if isinstance(over, ast.Call) and over.func != node and called(over) != "isinstance":
                        self.bad("L22, " + node.id, path, node.lineno)

    def test_walked_at_once(self):
        for path, tree in trees().items():
            above = parents(tree)
            for node in ast.walk(tree):
                method = isinstance(node, ast.Call) and isinstance(node.func, ast.Attribute)
                if called(node) in (["items", "keys", "values"] if method else WALKED):
                    over = above[node]
                    walked = isinstance(over, (ast.For, ast.comprehension)) and over.iter == node
                    if not walked and called(over) not in WALKERS + ["join"]:
                        self.bad("L23", path, node.lineno)

    def test_sets_are_not_kept(self):
        for path, tree in trees().items():
            above = parents(tree)
            for node in ast.walk(tree):
                if isinstance(node, ast.Set) or called(node) in ("set", "frozenset"):
                    over = above[node]
                    if not isinstance(over, (ast.Compare, ast.BinOp)) and called(over) not in ("sorted", "len"):
                        self.bad("L24", path, node.lineno)

    def test_what_a_file_s_top_holds_is_only_read(self):
        for path, tree in trees().items():
            above = parents(tree)
            tops = [node.targets[0].id for node in tree.body if isinstance(node, ast.Assign)
                    and isinstance(node.value, (ast.List, ast.Dict))]
            for node in ast.walk(tree):
                if isinstance(node, ast.Name) and node.id in tops and isinstance(node.ctx, ast.Load):
                    over = above[node]
                    read = isinstance(over, (ast.Compare, ast.For, ast.comprehension))
                    read = read or isinstance(over, ast.Subscript) and isinstance(over.ctx, ast.Load)
                    read = read or isinstance(over, ast.Attribute) and over.attr in ("get", "items", "keys", "values", "index")
                    if not read and called(over) not in ("len", "list", "dict", "tuple", "sorted"):
                        self.bad("L15", path, node.lineno)

    def test_classes_are_called_and_not_kept(self):
        names = {node.name for path, node in nodes() if isinstance(node, ast.ClassDef)}
        for path, tree in trees().items():
            above = parents(tree)
            for node in ast.walk(tree):
                if isinstance(node, ast.Name) and node.id in names:
                    over = above[node]
                    over = above[over] if isinstance(over, ast.Tuple) else over
                    right = isinstance(over, (ast.ClassDef, ast.ExceptHandler, ast.Raise))
                    right = right or isinstance(over, ast.Call) and (over.func == node or called(over) == "isinstance")
                    right = right or isinstance(over, ast.Attribute) and over.attr == "__init__"
                    if not right:
                        self.bad("L18, " + node.id, path, node.lineno)

    def test_what_a_file_s_top_holds_is_plain(self):
        for path, tree in trees().items():
            functions = [node.name for node in tree.body if isinstance(node, ast.FunctionDef)]
            for node in [node.value for node in tree.body if isinstance(node, ast.Assign)]:
                for part in ast.walk(node):
                    plain = isinstance(part, (ast.Constant, ast.Tuple, ast.List, ast.Dict, ast.Load))
                    if not plain and not (isinstance(part, ast.Name) and part.id in functions):
                        self.bad("L3", path, node.lineno)
                    if part != node and isinstance(part, (ast.List, ast.Dict)):
                        self.bad("L15", path, node.lineno)

    def test_numbers_and_texts(self):
        for path, node in nodes():
            if isinstance(node, ast.BinOp) and isinstance(node.op, ast.Pow):
                if not isinstance(node.right, ast.Constant) or not 0 <= node.right.value <= 64:
                    self.bad("L27", path, node.lineno)
            if isinstance(node, ast.Constant) and isinstance(node.value, str) and "%" in node.value:
                self.bad("L27", path, node.lineno)
            if isinstance(node, ast.FormattedValue) and not isinstance(node.value, ast.Name):
                self.bad("L7", path, node.lineno)

    def test_errors_of_python_s_own_are_not_taken_at_large(self):
        for path, node in nodes():
            if isinstance(node, ast.ExceptHandler):
                names = [part.id for part in ast.walk(node.type) if isinstance(part, ast.Name)] if node.type else [""]
                if any(name in ("", "Exception", "TypeError") for name in names):
                    self.bad("L19", path, node.lineno)


if __name__ == "__main__":
    unittest.main()
