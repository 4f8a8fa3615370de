"""Whether the package's files keep to the form that ../shared/LANGUAGE.md tells, as far as a look at them shows."""

import ast
import builtins
import os
import re
import unittest

TOP = os.path.join(os.path.dirname(os.path.abspath(__file__)), "..", "barwright")

NODES = """Module FunctionDef ClassDef Return Assign AugAssign For While If Raise Try ExceptHandler ImportFrom alias
    Expr Pass Break Continue BoolOp BinOp UnaryOp Lambda IfExp Dict Set ListComp comprehension Compare Call keyword
    FormattedValue JoinedStr Constant Attribute Subscript Slice Name List Tuple arguments arg Load Store
    And Or Add Sub Mult FloorDiv Mod Pow LShift RShift BitOr BitXor BitAnd Invert Not UAdd USub
    Eq NotEq Lt LtE Gt GtE Is IsNot In NotIn""".split()

PYTHONS_OWN = """len range enumerate zip min max sum abs sorted reversed int str bool list tuple dict set frozenset
    isinstance ord repr any all divmod Exception ValueError TypeError KeyError IndexError LookupError
    ZeroDivisionError ArithmeticError OverflowError RuntimeError NotImplementedError StopIteration""".split()

METHODS = """append clear copy count endswith extend find get index insert isalnum isalpha isdigit islower isspace
    isupper items join keys ljust lower lstrip partition pop remove replace reverse rfind rjust rpartition rsplit
    rstrip setdefault split splitlines startswith strip update upper values zfill bit_length""".split()

TWO_UNDERSCORES = ["__init__", "__eq__", "__repr__", "__str__", "__len__"]

WORDS_NOWHERE = re.compile(
    r"\b(type|typing|typing_extensions|enum|Enum|IntEnum|StrEnum|Flag|IntFlag|Generic|Protocol|ABC|ABCMeta"
    r"|namedtuple|NamedTuple|TypedDict|TYPE_CHECKING|abstractmethod)\b|dataclass|overload|contextmanager")

NAMES_NOWHERE = """register mro elements open input version_info with_traceback add_note format format_map""".split()

# What is walked on the spot, and within which calls that may be.
WALKED = ["zip", "enumerate", "reversed", "range"]
WALKED_METHODS = ["items", "keys", "values"]
WALKERS = ["list", "tuple", "dict", "sorted", "sum", "any", "all", "enumerate", "zip", "min", "max"]

KEYWORDS = {"sorted": ["key", "reverse"], "min": ["key", "default"], "max": ["key", "default"], "sum": ["start"],
            "enumerate": ["start"], "zip": ["strict"]}

VALUES_LIKE_METHODS = "count index title find get join lower upper split strip copy add".split()


def files():
    # Python lays __pycache__ there itself, and git passes it over.
    return sorted(name for name in os.listdir(TOP) if name != "__pycache__")


def source(name):
    with open(os.path.join(TOP, name), encoding="utf-8", newline="") as file:
        return file.read()


def trees():
    return [(name, ast.parse(source(name))) for name in files()]


def every_node():
    return [(name, node) for name, tree in trees() for node in ast.walk(tree)]


def bound_names(node):
    if isinstance(node, (ast.FunctionDef, ast.ClassDef)):
        return [node.name]
    if isinstance(node, ast.arg):
        return [node.arg]
    if isinstance(node, ast.Name) and isinstance(node.ctx, ast.Store):
        return [node.id]
    if isinstance(node, ast.Attribute):
        return [node.attr]
    return []


def top_names(node):
    if isinstance(node, ast.ImportFrom):
        return [alias.name for alias in node.names]
    if isinstance(node, ast.Assign):
        return [target.id for target in node.targets]
    if isinstance(node, (ast.FunctionDef, ast.ClassDef)):
        return [node.name]
    return []


def is_walked(node):
    if not isinstance(node, ast.Call):
        return False
    if isinstance(node.func, ast.Name):
        return node.func.id in WALKED
    return isinstance(node.func, ast.Attribute) and node.func.attr in WALKED_METHODS


class TestForm(unittest.TestCase):
    def fail_at(self, name, node, why):
        self.fail(name + ":" + str(getattr(node, "lineno", 0)) + ": " + why)

    def test_files(self):
        self.assertIn("__init__.py", files())
        for name in files():
            self.assertRegex(name, r"^([a-z][a-z0-9_]*|__init__|__main__)\.py$")

    def test_signs_and_sizes(self):
        for name in files():
            text = source(name)
            self.assertRegex(text, r"\A[ -~\n]*\Z", name)
            rows = text.split("\n")
            self.assertLessEqual(len(rows), 401, name)
            self.assertLessEqual(max(len(row) for row in rows), 120, name)
            self.assertIsNone(WORDS_NOWHERE.search(text), name)
        for name, node in every_node():
            if isinstance(node, ast.FunctionDef) and node.end_lineno - node.lineno >= 40:
                self.fail_at(name, node, "longer than 40 lines")

    def test_nodes(self):
        for name, node in every_node():
            if node.__class__.__name__ not in NODES:
                self.fail_at(name, node, node.__class__.__name__)

    def test_statements(self):
        for name, node in every_node():
            if isinstance(node, (ast.For, ast.While)) and node.orelse:
                self.fail_at(name, node, "else behind a loop")
            if isinstance(node, ast.Try) and node.finalbody:
                self.fail_at(name, node, "finally")
            if isinstance(node, ast.Expr) and not isinstance(node.value, ast.Call) and node.lineno > 1:
                self.fail_at(name, node, "a value by itself")
            if isinstance(node, ast.Assign) and len(node.targets) > 1:
                self.fail_at(name, node, "more than one target")
            if isinstance(node, ast.ExceptHandler) and node.type is None:
                self.fail_at(name, node, "except of no named class")

    def test_expressions(self):
        for name, node in every_node():
            if isinstance(node, ast.Constant) and isinstance(node.value, (float, complex, bytes)):
                self.fail_at(name, node, "no whole number or text")
            if isinstance(node, ast.Constant) and isinstance(node.value, str) and chr(37) in node.value:
                self.fail_at(name, node, "a percent sign")
            if isinstance(node, ast.ListComp) and (len(node.generators) > 1 or len(node.generators[0].ifs) > 1):
                self.fail_at(name, node, "more than one for or if")
            if isinstance(node, ast.FormattedValue) and not (isinstance(node.value, ast.Name) and not node.format_spec):
                self.fail_at(name, node, "an f-string of more than a name")
            if isinstance(node, ast.Compare) and isinstance(node.ops[0], (ast.Is, ast.IsNot)):
                sides = [node.left] + node.comparators
                if not any(isinstance(side, ast.Constant) and side.value in (None, True, False) for side in sides):
                    self.fail_at(name, node, "is beside neither None, True nor False")

    def test_functions_and_classes(self):
        for name, node in every_node():
            if isinstance(node, ast.arguments) and (node.vararg or node.kwarg or node.kwonlyargs or node.posonlyargs):
                self.fail_at(name, node, "no plain parameters")
            if isinstance(node, (ast.FunctionDef, ast.ClassDef)) and node.decorator_list:
                self.fail_at(name, node, "a decorator")
            if isinstance(node, ast.ClassDef):
                if len(node.bases) > 1 or node.keywords:
                    self.fail_at(name, node, "more than one base")
                if not all(isinstance(part, (ast.FunctionDef, ast.Pass)) for part in node.body):
                    self.fail_at(name, node, "a value in a class")

    def test_names(self):
        own = [word for word in dir(builtins) if not word.startswith("__")]
        for name, node in every_node():
            for word in bound_names(node):
                if word.startswith("_") and word not in TWO_UNDERSCORES or word in NAMES_NOWHERE:
                    self.fail_at(name, node, word)
                if word in own and not isinstance(node, ast.Attribute):
                    self.fail_at(name, node, word + " is Python's own")
            if isinstance(node, ast.Name) and node.id in own and node.id not in PYTHONS_OWN:
                self.fail_at(name, node, node.id)

    def test_methods(self):
        methods = [node.name for name, node in every_node() if isinstance(node, ast.FunctionDef)]
        for name, node in every_node():
            if isinstance(node, ast.Call) and isinstance(node.func, ast.Attribute):
                if node.func.attr not in METHODS + methods:
                    self.fail_at(name, node, node.func.attr)

    def test_names_are_bound_once_at_a_top(self):
        for name, tree in trees():
            bound = [word for node in tree.body for word in top_names(node)]
            self.assertEqual(len(bound), len(set(bound)), name)

    def test_no_local_is_called_like_a_class_or_an_import(self):
        for name, tree in trees():
            taken = [word for node in tree.body if isinstance(node, (ast.ImportFrom, ast.ClassDef))
                     for word in top_names(node)]
            for top in tree.body:
                for node in ast.walk(top):
                    is_local = isinstance(node, (ast.arg, ast.Name, ast.FunctionDef)) and node not in tree.body
                    if is_local and any(word in taken for word in bound_names(node)):
                        self.fail_at(name, node, "a local that is called like a class or an import")

    def test_no_name_is_a_method_and_a_value(self):
        methods = [method.name for name, node in every_node() if isinstance(node, ast.ClassDef)
                   for method in node.body if isinstance(method, ast.FunctionDef)]
        own = [word for kind in (str, int, list, tuple, dict, set, bytes) for word in dir(kind)]
        for name, node in every_node():
            if isinstance(node, ast.Attribute) and isinstance(node.ctx, ast.Store):
                if node.attr in methods:
                    self.fail_at(name, node, node.attr + " is a method and a value")
                if node.attr in own + ["args"] and node.attr not in VALUES_LIKE_METHODS:
                    self.fail_at(name, node, node.attr + " is a value's name of Python's own")

    def test_walked_on_the_spot(self):
        for name, tree in trees():
            above = {part: node for node in ast.walk(tree) for part in ast.iter_child_nodes(node)}
            for node in ast.walk(tree):
                if not is_walked(node):
                    continue
                over = above[node]
                in_loop = isinstance(over, (ast.For, ast.comprehension)) and over.iter is node
                in_call = isinstance(over, ast.Call) and isinstance(over.func, ast.Name) and (
                    over.func.id in WALKERS and node in over.args)
                if not in_loop and not in_call:
                    self.fail_at(name, node, "is walked elsewhere")

    def test_keywords(self):
        for name, node in every_node():
            if isinstance(node, ast.Call):
                called = node.func.id if isinstance(node.func, ast.Name) else ""
                for keyword in node.keywords:
                    if called in PYTHONS_OWN and keyword.arg not in KEYWORDS.get(called, []):
                        self.fail_at(name, node, str(keyword.arg))

    def test_lists_and_dicts_of_a_top_are_not_handed_on(self):
        for name, tree in trees():
            kept = [node.targets[0].id for node in tree.body
                    if isinstance(node, ast.Assign) and isinstance(node.value, (ast.List, ast.Dict))]
            above = {part: node for node in ast.walk(tree) for part in ast.iter_child_nodes(node)}
            for node in ast.walk(tree):
                if isinstance(node, ast.Name) and node.id in kept and isinstance(node.ctx, ast.Load):
                    over = above[node]
                    is_read = isinstance(over, (ast.Subscript, ast.Compare, ast.For, ast.comprehension))
                    is_copied = isinstance(over, ast.Call) and isinstance(over.func, ast.Name) and (
                        over.func.id in ("len", "list", "dict", "tuple", "sorted"))
                    is_asked = isinstance(over, ast.Attribute) and over.attr in WALKED_METHODS + ["get", "count", "index"]
                    if not is_read and not is_copied and not is_asked:
                        self.fail_at(name, node, node.id + " is handed on")

    def test_imports(self):
        drawn = {}
        for name, tree in trees():
            module = "barwright." + name[:-3]
            drawn[module] = []
            for node in ast.walk(tree):
                if isinstance(node, ast.ImportFrom):
                    if node.level or not (node.module or "").startswith("barwright.") or node not in tree.body:
                        self.fail_at(name, node, "an import that isn't the package's own, at the file's top")
                    if any(alias.name == "*" or alias.asname for alias in node.names):
                        self.fail_at(name, node, "an import under another name")
                    drawn[module].append(node.module)
        while drawn:
            free = [module for module in drawn if not any(other in drawn for other in drawn[module])]
            self.assertTrue(free, "files draw from one another: " + ", ".join(drawn))
            for module in free:
                drawn.pop(module)

    def test_tops(self):
        for name, tree in trees():
            for place, node in enumerate(tree.body):
                is_docstring = place == 0 and isinstance(node, ast.Expr) and isinstance(node.value, ast.Constant)
                if not is_docstring and not isinstance(
                        node, (ast.ImportFrom, ast.FunctionDef, ast.ClassDef, ast.Assign)):
                    self.fail_at(name, node, "something is done at a file's top")


if __name__ == "__main__":
    unittest.main()
