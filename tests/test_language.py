"""The package's files held against the rules of LANGUAGE.md, as far as their form shows it."""

import ast
import builtins
import pathlib
import re
import unittest

PACKAGE = pathlib.Path(__file__).resolve().parent.parent / "seekhall"

FUNCTIONS = """len range enumerate zip min max sum abs sorted reversed int str bool list tuple dict set frozenset isinstance ord
repr any all divmod""".split()
ERRORS = """Exception ValueError TypeError KeyError IndexError LookupError ZeroDivisionError ArithmeticError OverflowError
RuntimeError NotImplementedError AttributeError StopIteration""".split()
METHODS = """append clear copy count endswith extend find get index insert isalnum isalpha isdigit islower isspace isupper items
join keys ljust lower lstrip partition pop remove replace reverse rfind rjust rpartition rsplit rstrip setdefault split splitlines
startswith strip update upper values zfill bit_length""".split()
NO_WORDS = """type typing typing_extensions enum Enum IntEnum StrEnum Flag IntFlag Generic Protocol ABC ABCMeta namedtuple
NamedTuple TypedDict TYPE_CHECKING abstractmethod""".split()
NO_PARTS = "dataclass overload contextmanager".split()
NO_NAMES = """register mro elements open input version_info with_traceback add_note attrgetter breakpoint builtins compile copyright
credits delattr dir eval exec exit gc getattr globals hasattr help id importlib license locals methodcaller os quit setattr super type
vars sys""".split()
NO_FIELDS = """items keys values pop update append clear extend insert remove reverse setdefault sort args encode format
mro register elements open input version_info with_traceback add_note format_map""".split()
FREE_FIELDS = "count index title find get join lower upper split strip copy add".split()
DUNDERS = "__init__ __eq__ __repr__ __str__ __len__".split()
CHANGING = "append clear extend insert pop remove reverse setdefault update".split()
WALKED = "zip enumerate reversed range".split()
WALKERS = "list tuple dict sorted sum any all enumerate zip min max".split()

STATEMENTS = (ast.Assign, ast.AugAssign, ast.If, ast.While, ast.For, ast.Return, ast.Break, ast.Continue, ast.Pass, ast.Raise,
              ast.Try, ast.Expr, ast.FunctionDef)
EXPRESSIONS = (ast.Constant, ast.Name, ast.Tuple, ast.List, ast.Dict, ast.Set, ast.BinOp, ast.UnaryOp, ast.BoolOp, ast.Compare,
               ast.IfExp, ast.Call, ast.Attribute, ast.Subscript, ast.Slice, ast.ListComp, ast.JoinedStr, ast.FormattedValue,
               ast.Lambda)
OWN_NAMES = [name for kind in (str, int, list, dict, set, frozenset, bytes, tuple) for name in dir(kind)]


def files():
    return sorted(PACKAGE.glob("*.py"))


def walked_with_parents(tree):
    parents = {}
    for node in ast.walk(tree):
        for child in ast.iter_child_nodes(node):
            parents[child] = node
    return parents


def called_name(node):
    if isinstance(node, ast.Call) and isinstance(node.func, ast.Name):
        return node.func.id
    return None


class Checker:
    def __init__(self, path, text):
        self.path = path
        self.text = text
        self.tree = ast.parse(text)
        self.parents = walked_with_parents(self.tree)
        self.faults = []

    def fault(self, rule, line, words=""):
        self.faults.append((rule, self.path, line, words))

    def check(self):
        self.check_lines()
        self.check_top()
        for node in ast.walk(self.tree):
            if isinstance(node, ast.stmt):
                self.check_statement(node)
            if isinstance(node, ast.expr):
                self.check_expression(node)
            if isinstance(node, ast.FunctionDef):
                self.check_function(node)
            if isinstance(node, ast.ClassDef):
                self.check_class(node)
            if isinstance(node, ast.ExceptHandler) and node.type is None:
                self.fault("L6", node.lineno)
        return self.faults

    def check_lines(self):
        rows = self.text.split("\n")
        if len(rows) > 401:
            self.fault("L10", len(rows))
        for number, row in enumerate(rows, start=1):
            if len(row) > 120 or "\t" in row:
                self.fault("L10", number)
            if not all(" " <= sign <= "~" for sign in row):
                self.fault("L14", number)
            for word in re.findall(r"\w+", row):
                if word in NO_WORDS or any(part in word for part in NO_PARTS):
                    self.fault("L17", number, word)

    def check_top(self):
        bound = []
        for place, node in enumerate(self.tree.body):
            if isinstance(node, (ast.FunctionDef, ast.ClassDef)):
                bound.append(node.name)
            elif isinstance(node, ast.ImportFrom):
                bound.extend(alias.asname or alias.name for alias in node.names)
                if node.level or not node.module.startswith("seekhall.") or any(alias.name == "*" for alias in node.names):
                    self.fault("L2", node.lineno)
            elif isinstance(node, ast.Assign):
                bound.extend(target.id for target in node.targets)
                self.check_top_value(node.value)
            elif not (place == 0 and isinstance(node, ast.Expr) and isinstance(node.value, ast.Constant)):
                self.fault("L3", node.lineno)
        if len(bound) != len(set(bound)):
            self.fault("L15", 0, str(bound))
        self.bound = bound

    def check_top_value(self, value):
        for node in ast.walk(value):
            if not isinstance(node, (ast.Constant, ast.List, ast.Tuple, ast.Dict, ast.Name, ast.Load, ast.USub, ast.UnaryOp)):
                self.fault("L3", value.lineno)
            if node is not value and isinstance(node, (ast.List, ast.Dict)):
                self.fault("L15", value.lineno)

    def check_statement(self, node):
        at_top = self.parents[node] is self.tree
        if not at_top and not isinstance(node, STATEMENTS):
            self.fault("L6", node.lineno, ast.dump(node)[:40])
        if isinstance(node, ast.Assign) and len(node.targets) != 1:
            self.fault("L6", node.lineno)
        if isinstance(node, (ast.For, ast.While)) and node.orelse:
            self.fault("L6", node.lineno)
        if isinstance(node, ast.Try) and node.finalbody:
            self.fault("L6", node.lineno)
        if isinstance(node, ast.Expr) and not at_top and not isinstance(node.value, ast.Call):
            self.fault("L6", node.lineno)
        if isinstance(node, ast.Raise) and not isinstance(node.exc, ast.Call):
            self.fault("L19", node.lineno)
        if isinstance(node, ast.For):
            self.check_walked(node)

    def check_walked(self, node):
        walked = {ast.dump(part) for part in ast.walk(node.iter) if isinstance(part, (ast.Name, ast.Attribute))}
        for part in ast.walk(ast.Module(node.body, [])):
            if isinstance(part, ast.Call) and isinstance(part.func, ast.Attribute) and part.func.attr in CHANGING:
                if ast.dump(part.func.value) in walked:
                    self.fault("L23", part.lineno)
            if isinstance(part, ast.Subscript) and isinstance(part.ctx, ast.Store):
                if ast.dump(part.value).replace("Store", "Load") in walked:
                    self.fault("L23", part.lineno)

    def check_expression(self, node):
        if not isinstance(node, EXPRESSIONS):
            self.fault("L7", node.lineno, ast.dump(node)[:40])
        if isinstance(node, ast.Constant) and not (node.value is None or isinstance(node.value, (bool, int, str))):
            self.fault("L7", node.lineno)
        if isinstance(node, ast.Constant) and isinstance(node.value, str) and chr(37) in node.value:
            self.fault("L27", node.lineno)
        if isinstance(node, ast.BinOp):
            self.check_operator(node)
        if isinstance(node, ast.Compare):
            self.check_comparison(node)
        if isinstance(node, ast.ListComp) and (len(node.generators) != 1 or len(node.generators[0].ifs) > 1):
            self.fault("L7", node.lineno)
        if isinstance(node, ast.FormattedValue) and not isinstance(node.value, ast.Name):
            self.fault("L7", node.lineno)
        if isinstance(node, ast.Name):
            self.check_name(node)
        if isinstance(node, ast.Attribute):
            self.check_attribute(node)
        if isinstance(node, ast.Call):
            self.check_call(node)

    def check_operator(self, node):
        if isinstance(node.op, (ast.Div, ast.MatMult)):
            self.fault("L7", node.lineno)
        if isinstance(node.op, ast.Pow) and not isinstance(node.right, ast.Constant):
            self.fault("L27", node.lineno)

    def check_comparison(self, node):
        sides = [node.left] + node.comparators
        for op, left, right in zip(node.ops, sides, sides[1:]):
            if isinstance(op, (ast.Is, ast.IsNot)):
                if not any(isinstance(side, ast.Constant) and isinstance(side.value, (bool, type(None))) for side in (left, right)):
                    self.fault("L20", node.lineno)

    def check_name(self, node):
        if node.id.startswith("_") or node.id in NO_NAMES:
            self.fault("L12, L17", node.lineno, node.id)
        if hasattr(builtins, node.id):
            if node.id not in FUNCTIONS + ERRORS:
                self.fault("L8", node.lineno, node.id)
            if isinstance(node.ctx, ast.Store):
                self.fault("L15", node.lineno, node.id)
            if node.id in FUNCTIONS and not self.is_called(node):
                self.fault("L22", node.lineno, node.id)

    def is_called(self, node):
        parent = self.parents[node]
        if isinstance(parent, ast.Call):
            return parent.func is node or called_name(parent) == "isinstance"
        return isinstance(parent, (ast.keyword, ast.Tuple))

    def check_attribute(self, node):
        if node.attr.startswith("_") and node.attr not in DUNDERS:
            self.fault("L12", node.lineno, node.attr)
        if isinstance(node.ctx, ast.Store):
            if node.attr in NO_FIELDS or (node.attr in OWN_NAMES and node.attr not in FREE_FIELDS):
                self.fault("L26", node.lineno, node.attr)
        elif node.attr in OWN_NAMES and node.attr not in METHODS + DUNDERS and node.attr not in FREE_FIELDS:
            self.fault("L25", node.lineno, node.attr)

    def check_call(self, node):
        name = called_name(node)
        if any(isinstance(thing, ast.Starred) for thing in node.args) or any(word.arg is None for word in node.keywords):
            self.fault("L7", node.lineno)
        if name in WALKED and not self.is_walked(node):
            self.fault("L23", node.lineno, name)
        if name in ("set", "frozenset") and not self.is_set_on_the_spot(node):
            self.fault("L24", node.lineno)
        if isinstance(node.func, ast.Attribute) and node.func.attr in ("items", "keys", "values") and not self.is_walked(node):
            self.fault("L23", node.lineno)

    def is_walked(self, node):
        parent = self.parents[node]
        if isinstance(parent, (ast.For, ast.comprehension)):
            return parent.iter is node
        if isinstance(parent, ast.Call) and isinstance(parent.func, ast.Attribute):
            return parent.func.attr == "join" and isinstance(parent.func.value, ast.Constant)
        return called_name(parent) in WALKERS

    def is_set_on_the_spot(self, node):
        parent = self.parents[node]
        while isinstance(parent, ast.BinOp):
            parent = self.parents[parent]
        if isinstance(parent, ast.Compare):
            return all(isinstance(op, (ast.In, ast.NotIn, ast.Eq, ast.NotEq)) for op in parent.ops)
        return called_name(parent) in ("sorted", "len")

    def check_function(self, node):
        if node.end_lineno - node.lineno + 1 > 40:
            self.fault("L10", node.lineno, node.name)
        handed = node.args
        if handed.vararg or handed.kwarg or handed.kwonlyargs or handed.posonlyargs or node.decorator_list:
            self.fault("L4", node.lineno)
        if node.name.startswith("_") and not (node.name in DUNDERS and isinstance(self.parents[node], ast.ClassDef)):
            self.fault("L12", node.lineno, node.name)
        imported = [alias.name for row in self.tree.body if isinstance(row, ast.ImportFrom) for alias in row.names]
        classes = [row.name for row in self.tree.body if isinstance(row, ast.ClassDef)]
        stored = [part.id for part in ast.walk(node) if isinstance(part, ast.Name) and isinstance(part.ctx, ast.Store)]
        for name in stored + [part.arg for part in ast.walk(node) if isinstance(part, ast.arg)]:
            if name in imported + classes or hasattr(builtins, name) or name.startswith("_") or name in NO_NAMES:
                self.fault("L15", node.lineno, name)

    def check_class(self, node):
        if self.parents[node] is not self.tree:
            self.fault("L15", node.lineno)
        if len(node.bases) > 1 or node.keywords or node.decorator_list:
            self.fault("L5", node.lineno)
        if not all(isinstance(row, (ast.FunctionDef, ast.Pass)) for row in node.body):
            self.fault("L5", node.lineno)
        names = [row.name for row in node.body if isinstance(row, ast.FunctionDef)]
        if len(names) != len(set(names)):
            self.fault("L18", node.lineno)
        for name in names:
            if name in OWN_NAMES and name not in METHODS + DUNDERS + ["add", "discard"]:
                self.fault("L26", node.lineno, name)


def faults_of(text):
    return Checker("text", text).check()


def drawn_from(tree):
    return [node.module for node in tree.body if isinstance(node, ast.ImportFrom)]


class LanguageTest(unittest.TestCase):
    def test_nothing_but_plain_files_lies_in_the_package(self):
        for path in PACKAGE.iterdir():
            if path.name != "__pycache__":
                self.assertRegex(path.name, r"^(__init__|[a-z][a-z0-9_]*)\.py$")
                self.assertFalse(path.stem != "__init__" and hasattr(builtins, path.stem), path)
                self.assertNotIn(path.stem, NO_WORDS + ["test", "tests", "testing", "site", "conftest"])

    def test_every_file_keeps_the_rules(self):
        for path in files():
            self.assertEqual(Checker(path.name, path.read_text(encoding="utf-8")).check(), [])

    def test_every_name_is_drawn_from_the_file_that_defines_it(self):
        trees = {path.stem: ast.parse(path.read_text(encoding="utf-8")) for path in files()}
        for stem, tree in trees.items():
            for node in tree.body:
                if isinstance(node, ast.ImportFrom):
                    home = trees[node.module.partition(".")[2]]
                    defined = [row.name for row in home.body if isinstance(row, (ast.FunctionDef, ast.ClassDef))]
                    defined += [row.targets[0].id for row in home.body if isinstance(row, ast.Assign)]
                    for alias in node.names:
                        self.assertIn(alias.name, defined, stem)

    def test_no_two_files_draw_from_one_another(self):
        left = {"seekhall." + path.stem: drawn_from(ast.parse(path.read_text(encoding="utf-8"))) for path in files()}
        while left:
            free = [stem for stem in left if not any(other in left for other in left[stem])]
            self.assertTrue(free, left)
            for stem in free:
                left.pop(stem)

    def test_no_name_is_a_method_here_and_a_value_there(self):
        methods = set()
        values = set()
        for path in files():
            for node in ast.walk(ast.parse(path.read_text(encoding="utf-8"))):
                if isinstance(node, ast.ClassDef):
                    methods.update(row.name for row in node.body if isinstance(row, ast.FunctionDef))
                if isinstance(node, ast.Attribute) and isinstance(node.ctx, ast.Store):
                    values.add(node.attr)
        self.assertEqual(methods & values, set())

    def test_the_checker_sees_what_is_outside(self):
        outside = [
            "import sys", "x = [1, [2]]", "x = 1\nx = 2", "x = 1.5", "print(1)", "# of this type",
            "def f(*x):\n    return x", "def f(next):\n    return next", "def f(x):\n    'words'",
            "def f(x):\n    return x / 2", "def f(x):\n    return {y for y in x}", "def f(x):\n    return x is f",
            "def f(x):\n    y = set(x)\n    return len(y)", "def f(x):\n    y = zip(x, x)\n    return list(y)",
            "def f(x):\n    assert x", "def f(x):\n    return x.format()", "def f(x):\n    a = b = x",
            "def f(x):\n    for y in x:\n        x.append(y)", "def f(x):\n    return eval(x)",
            "def f(n):\n    return 2 ** n", "def f(x):\n    return len",
            "class A:\n    x = 1", "class A:\n    def f(self):\n        self.keys = 1",
        ]
        for text in outside:
            self.assertNotEqual(faults_of(text), [], text)
