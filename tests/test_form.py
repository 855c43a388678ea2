"""The package's files keep to the part of Python that is told for them.

Only what can be seen in a file for certain is looked at; the names L1 to L27 are those of the rules.
"""

import ast
import builtins
import pathlib
import re
import unittest

PACKAGE = pathlib.Path(__file__).resolve().parent.parent / "goaltrail"

OWN_NAMES = set(
    "len range enumerate zip min max sum abs sorted reversed int str bool list tuple dict set frozenset isinstance ord"
    " repr any all divmod Exception ValueError TypeError KeyError IndexError LookupError ZeroDivisionError"
    " ArithmeticError OverflowError RuntimeError NotImplementedError AttributeError StopIteration True False None"
    " self".split()
)
OWN_METHODS = set(
    "append clear copy count endswith extend find get index insert isalnum isalpha isdigit islower isspace isupper"
    " items join keys ljust lower lstrip partition pop remove replace reverse rfind rjust rpartition rsplit rstrip"
    " setdefault split splitlines startswith strip update upper values zfill bit_length add discard".split()
)
TWO_UNDERSCORES = {"__init__", "__eq__", "__repr__", "__str__", "__len__"}
WORDS_OUT = set(
    "type typing typing_extensions enum Enum IntEnum StrEnum Flag IntFlag Generic Protocol ABC ABCMeta namedtuple"
    " NamedTuple TypedDict TYPE_CHECKING abstractmethod".split()
)
NAMES_OUT = set("register mro elements open input version_info with_traceback add_note format format_map".split())
STATEMENTS = (
    ast.FunctionDef, ast.ClassDef, ast.Assign, ast.AugAssign, ast.If, ast.While, ast.For, ast.Return, ast.Break,
    ast.Continue, ast.Pass, ast.Raise, ast.Try, ast.Expr, ast.ImportFrom,
)
EXPRESSIONS = (
    ast.Constant, ast.List, ast.Tuple, ast.Dict, ast.BinOp, ast.UnaryOp, ast.Compare, ast.BoolOp, ast.IfExp, ast.Call,
    ast.Attribute, ast.Subscript, ast.Slice, ast.ListComp, ast.JoinedStr, ast.FormattedValue, ast.Name, ast.Lambda,
    ast.Set,
)
PLAIN = (ast.Constant, ast.List, ast.Tuple, ast.Dict, ast.Name, ast.USub, ast.UnaryOp, ast.Load)
WALKED = {"range", "zip", "enumerate", "reversed"}
WALKERS = {"list", "tuple", "dict", "sorted", "sum", "any", "all", "enumerate", "zip", "min", "max", "join"}
CHANGERS = {"append", "clear", "extend", "insert", "pop", "remove", "reverse", "setdefault", "update"}
BUILTIN_METHODS = set()
for sort in (str, int, list, dict, set, bytes, tuple):
    BUILTIN_METHODS.update(name for name in dir(sort) if not name.startswith("__"))


def text_faults(text):
    faults = []
    rows = text.split("\n")
    if len(rows) > 401:
        faults.append("L10: more than 400 lines")
    for number, row in enumerate(rows, 1):
        if len(row) > 120:
            faults.append(f"L10: line {number} is too long")
        if any(not " " <= sign <= "~" for sign in row):
            faults.append(f"L14: line {number} has a sign that is out")
    for word in re.findall(r"\w+", text):
        if word in WORDS_OUT or re.search("dataclass|overload|contextmanager", word):
            faults.append(f"L17: the word {word}")
    return faults


def called_name(node):
    if isinstance(node, ast.Call):
        if isinstance(node.func, ast.Name):
            return node.func.id
        if isinstance(node.func, ast.Attribute):
            return node.func.attr
    return ""


def top_faults(tree):
    faults = []
    bound = []
    for place, node in enumerate(tree.body):
        if isinstance(node, ast.ImportFrom):
            good = node.level == 0 and (node.module or "").startswith("goaltrail.")
            if not good or any(name.name == "*" for name in node.names):
                faults.append(f"L2: line {node.lineno}")
            bound.extend(name.asname or name.name for name in node.names)
        elif isinstance(node, ast.Assign):
            if not all(isinstance(part, PLAIN) for part in ast.walk(node.value)):
                faults.append(f"L3: line {node.lineno}")
            bound.extend(target.id for target in node.targets)
        elif isinstance(node, (ast.FunctionDef, ast.ClassDef)):
            bound.append(node.name)
        elif not (place == 0 and isinstance(node, ast.Expr) and isinstance(node.value, ast.Constant)):
            faults.append(f"L3: line {node.lineno}")
    if len(bound) != len(set(bound)):
        faults.append("L15: a name is bound twice")
    return faults


def def_faults(node):
    faults = []
    told = node.args
    if told.vararg or told.kwarg or told.kwonlyargs or told.posonlyargs or node.decorator_list:
        faults.append(f"L4: line {node.lineno}")
    if node.end_lineno - node.lineno + 1 > 40:
        faults.append(f"L10: {node.name} has more than 40 lines")
    if node.name.startswith("_") and node.name not in TWO_UNDERSCORES:
        faults.append(f"L12: {node.name}")
    return faults


def class_faults(node):
    faults = []
    if len(node.bases) > 1 or node.keywords or node.decorator_list:
        faults.append(f"L5: line {node.lineno}")
    for part in node.body:
        docstring = isinstance(part, ast.Expr) and isinstance(part.value, ast.Constant)
        if not isinstance(part, (ast.FunctionDef, ast.Pass)) and not docstring:
            faults.append(f"L5: line {part.lineno}")
    return faults


def statement_faults(node):
    wrong = not isinstance(node, STATEMENTS)
    if isinstance(node, ast.Assign):
        wrong = len(node.targets) != 1
    if isinstance(node, (ast.While, ast.For)):
        wrong = bool(node.orelse)
    if isinstance(node, ast.Try):
        wrong = bool(node.finalbody) or any(handler.type is None for handler in node.handlers)
    if isinstance(node, ast.Expr):
        wrong = not isinstance(node.value, (ast.Call, ast.Constant))
    return [f"L6: line {node.lineno}"] if wrong else []


def expression_faults(node):
    faults = []
    if not isinstance(node, EXPRESSIONS):
        faults.append(f"L7: line {node.lineno}")
    if isinstance(node, ast.BinOp) and isinstance(node.op, (ast.Div, ast.MatMult)):
        faults.append(f"L7: line {node.lineno}")
    if isinstance(node, ast.Constant):
        if isinstance(node.value, (float, complex, bytes)) or node.value is ...:
            faults.append(f"L7: line {node.lineno}")
        if isinstance(node.value, str) and "%" in node.value:
            faults.append(f"L27: line {node.lineno}")
    if isinstance(node, ast.BinOp) and isinstance(node.op, ast.Pow):
        if not (isinstance(node.right, ast.Constant) and 0 <= node.right.value <= 64):
            faults.append(f"L27: line {node.lineno}")
    if isinstance(node, ast.ListComp) and (len(node.generators) > 1 or len(node.generators[0].ifs) > 1):
        faults.append(f"L7: line {node.lineno}")
    if isinstance(node, ast.FormattedValue) and (not isinstance(node.value, ast.Name) or node.format_spec):
        faults.append(f"L7: line {node.lineno}")
    if isinstance(node, ast.Compare) and any(isinstance(op, (ast.Is, ast.IsNot)) for op in node.ops):
        sides = [node.left] + node.comparators
        if not any(isinstance(side, ast.Constant) and side.value in (None, True, False) for side in sides):
            faults.append(f"L20: line {node.lineno}")
    return faults


def changed_faults(tree):
    """What a loop walks is not changed in it (L23)."""
    faults = []
    for loop in ast.walk(tree):
        if isinstance(loop, ast.For):
            walked = ast.dump(loop.iter.args[0] if called_name(loop.iter) in WALKED - {"range"} else loop.iter)
            for node in ast.walk(loop):
                method = isinstance(node, ast.Call) and isinstance(node.func, ast.Attribute)
                changed = node.func.value if method and node.func.attr in CHANGERS else None
                if isinstance(node, ast.Subscript) and isinstance(node.ctx, ast.Store):
                    changed = node.value
                if changed is not None and ast.dump(changed) == walked:
                    faults.append(f"L23: line {node.lineno}")
    return faults


def taken_faults(node):
    """Which error classes are taken, and how an error is raised (L19)."""
    faults = []
    if isinstance(node, ast.ExceptHandler):
        taken = node.type.elts if isinstance(node.type, ast.Tuple) else [node.type]
        if any(getattr(name, "id", "Exception") in ("Exception", "TypeError") for name in taken):
            faults.append(f"L19: line {node.lineno}")
    if isinstance(node, ast.Raise) and not isinstance(node.exc, ast.Call):
        faults.append(f"L19: line {node.lineno}")
    return faults


def members(tree):
    """The methods of a file's classes, and the values that are given to objects in it."""
    methods = set()
    values = set()
    for node in ast.walk(tree):
        if isinstance(node, ast.ClassDef):
            methods.update(part.name for part in node.body if isinstance(part, ast.FunctionDef))
        if isinstance(node, ast.Attribute) and isinstance(node.ctx, ast.Store):
            values.add(node.attr)
    return methods, values


def walk_faults(tree):
    """What is to be walked on the spot stands where something walks it (L23)."""
    walked = []
    for node in ast.walk(tree):
        if isinstance(node, (ast.For, ast.comprehension)):
            walked.append(node.iter)
        elif called_name(node) in WALKERS:
            walked.extend(node.args)
    faults = []
    for node in ast.walk(tree):
        view = isinstance(node, ast.Call) and isinstance(node.func, ast.Attribute)
        kept = called_name(node) in (("items", "keys", "values") if view else WALKED)
        if kept and not any(node is place for place in walked):
            faults.append(f"L23: line {node.lineno}")
    return faults


def name_faults(tree):
    faults = []
    bound = set()
    reserved = set(dir(builtins))
    for node in ast.walk(tree):
        if isinstance(node, (ast.FunctionDef, ast.ClassDef)):
            bound.add(node.name)
        elif isinstance(node, ast.ImportFrom):
            bound.update(name.asname or name.name for name in node.names)
            reserved.update(name.asname or name.name for name in node.names)
        if isinstance(node, ast.ClassDef):
            reserved.add(node.name)
    for node in ast.walk(tree):
        name = node.arg if isinstance(node, ast.arg) else ""
        if isinstance(node, ast.Name) and isinstance(node.ctx, ast.Store):
            name = node.id
        if isinstance(node, ast.ExceptHandler):
            name = node.name or ""
        if name:
            bound.add(name)
            if name in reserved:
                faults.append(f"L15: {name}")
    for node in ast.walk(tree):
        if isinstance(node, ast.Name):
            if node.id.startswith("_") or node.id in NAMES_OUT:
                faults.append(f"L12, L17: {node.id}")
            if isinstance(node.ctx, ast.Load) and node.id not in bound | OWN_NAMES:
                faults.append(f"L8: {node.id}")
        if isinstance(node, ast.Attribute):
            if node.attr in NAMES_OUT or (node.attr in BUILTIN_METHODS and node.attr not in OWN_METHODS):
                faults.append(f"L17, L25: {node.attr}")
    return faults


def file_faults(text):
    tree = ast.parse(text)
    faults = text_faults(text) + top_faults(tree) + name_faults(tree) + walk_faults(tree)
    faults.extend(changed_faults(tree))
    for node in ast.walk(tree):
        faults.extend(taken_faults(node))
        if isinstance(node, ast.FunctionDef):
            faults.extend(def_faults(node))
        if isinstance(node, ast.ClassDef):
            faults.extend(class_faults(node))
        if isinstance(node, ast.stmt):
            faults.extend(statement_faults(node))
        if isinstance(node, ast.expr):
            faults.extend(expression_faults(node))
    return faults


def drawn_from(text):
    return [node.module.split(".")[1] for node in ast.parse(text).body if isinstance(node, ast.ImportFrom)]


class Form(unittest.TestCase):
    def texts(self):
        return {path.stem: path.read_text(encoding="utf-8") for path in sorted(PACKAGE.glob("*.py"))}

    def test_only_plain_files_lie_in_the_package(self):
        names = [path.name for path in PACKAGE.iterdir() if path.name != "__pycache__"]
        self.assertIn("__init__.py", names)
        for name in names:
            with self.subTest(name):
                self.assertRegex(name, r"\A[a-z0-9_]+\.py\Z")

    def test_each_file_keeps_to_the_rules(self):
        for name, text in self.texts().items():
            with self.subTest(name):
                self.assertEqual(file_faults(text), [])

    def test_no_two_files_draw_from_one_another(self):
        drawn = {name: drawn_from(text) for name, text in self.texts().items()}
        while drawn:
            free = [name for name, others in drawn.items() if not any(other in drawn for other in others)]
            self.assertNotEqual(free, [], sorted(drawn))
            drawn = {name: others for name, others in drawn.items() if name not in free}

    def test_no_name_is_a_method_in_one_class_and_a_value_in_another(self):
        methods = set()
        values = set()
        for text in self.texts().values():
            found = members(ast.parse(text))
            methods |= found[0]
            values |= found[1]
        self.assertEqual(methods & values, set())
        # Methods that the document tells for classes that are still to come.
        told = "free number app look one mark back_to parts term ask plainly table why".split()
        self.assertEqual(values & set(told), set())

    def test_what_is_out_is_seen(self):
        for text in (
            "import os", "from goaltrail import terms", "x = 1\nx = 2", "x = f()", "x = 1.5", "def f(*a):\n    pass",
            "def f(a):\n    return a / 2", "def f(a):\n    b = c = a", "def f(a):\n    return (x for x in a)",
            "def f(a):\n    assert a", "def f(a):\n    return a is 5", "def f(a):\n    b = range(a)\n    return b",
            "def f(a):\n    a.sort()", "def f(a):\n    return print(a)", "def f(list):\n    return list",
            "def f(a):\n    return {k: 1 for k in a}", "def f(a):\n    return a.items()", "# the type of it",
            "def _f():\n    pass", "# " + "a" * 120, "x = '%'", "class C:\n    x = 1",
            "def f(a):\n    return f'{a + 1}'",
            "def f():\n" + "    pass\n" * 40, "# \u00e4", "def f():\n\tpass", "class C(A, B):\n    pass",
            "def f(n):\n    return 10 ** n", "def f(a):\n    for b in a:\n        a.append(b)",
            "def f(a):\n    for k, b in enumerate(a):\n        a[k] = b",
            "def f(a):\n    try:\n        a()\n    except Exception:\n        pass",
            "def f(a):\n    try:\n        a()\n    except KeyError:\n        raise",
        ):
            with self.subTest(text):
                self.assertNotEqual(file_faults(text), [])


if __name__ == "__main__":
    unittest.main()
