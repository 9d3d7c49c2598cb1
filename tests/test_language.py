"""The package keeps to the part of Python that it may use, as far as a reading of its files can tell."""

import ast
import builtins
import pathlib
import re
import unittest

PACKAGE = pathlib.Path(__file__).resolve().parent.parent / "arrowhall"

BUILT_IN = set("""len range enumerate zip min max sum abs sorted reversed int str bool list tuple dict set frozenset
isinstance ord repr any all divmod Exception ValueError TypeError KeyError IndexError LookupError ZeroDivisionError
ArithmeticError OverflowError RuntimeError NotImplementedError AttributeError StopIteration""".split())

METHODS = set("""append clear copy count endswith extend find get index insert isalnum isalpha isdigit islower isspace
isupper items join keys ljust lower lstrip partition pop remove replace reverse rfind rjust rpartition rsplit rstrip
setdefault split splitlines startswith strip update upper values zfill bit_length""".split())

NODES = set("""Module FunctionDef arguments arg ClassDef Return Assign AugAssign For While If Raise Try ExceptHandler
ImportFrom alias Expr Pass Break Continue BoolOp And Or BinOp Add Sub Mult FloorDiv Mod Pow BitAnd BitOr BitXor LShift
RShift UnaryOp Not USub Invert Lambda IfExp Dict Set List Tuple ListComp comprehension Compare Eq NotEq Lt LtE Gt GtE
Is IsNot In NotIn Call keyword JoinedStr FormattedValue Constant Attribute Subscript Slice Name Load Store""".split())

DUNDERS = {"__init__", "__eq__", "__repr__", "__str__", "__len__", "__all__", "__version__"}

WORDS = re.compile(r"\b(type|typing|typing_extensions|enum|Enum|IntEnum|StrEnum|Flag|IntFlag|Generic|Protocol|ABC|"
                   r"ABCMeta|namedtuple|NamedTuple|TypedDict|TYPE_CHECKING|abstractmethod)\b"
                   r"|dataclass|overload|contextmanager")

NEVER = {"register", "mro", "elements", "open", "input", "version_info", "with_traceback", "add_note", "format",
         "format_map"}


def faults_of_rows(text):
    faults = []
    for number, row in enumerate(text.split("\n"), start=1):
        if len(row) > 120:
            faults.append(f"L10 row {number}")
        if any(not " " <= sign <= "~" for sign in row):
            faults.append(f"L14 row {number}")
        if WORDS.search(row):
            faults.append(f"L17 row {number}")
    if len(text.splitlines()) > 400:
        faults.append("L10 file")
    return faults


def bound_names(tree):
    names = []
    for node in ast.walk(tree):
        if isinstance(node, ast.Name) and isinstance(node.ctx, ast.Store):
            names.append(node.id)
        elif isinstance(node, (ast.FunctionDef, ast.ClassDef)):
            names.append(node.name)
        elif isinstance(node, ast.arg):
            names.append(node.arg)
        elif isinstance(node, ast.alias):
            names.append(node.asname or node.name)
    return names


def faults_of_names(tree):
    faults = []
    for name in bound_names(tree):
        if name.startswith("_") and name not in DUNDERS or name in NEVER:
            faults.append(f"L12 {name}")
        if name in dir(builtins):
            faults.append(f"L15 {name}")
    for node in ast.walk(tree):
        if isinstance(node, ast.Name) and node.id in dir(builtins) and node.id not in BUILT_IN:
            faults.append(f"L8 {node.id}")
        if isinstance(node, ast.Attribute) and (node.attr in NEVER or node.attr.startswith("_")):
            faults.append(f"L17 {node.attr}")
    return faults


def faults_of_node(node):
    kind = node.__class__.__name__
    if kind not in NODES:
        return [f"L6 {kind}"]
    if kind == "Assign" and (len(node.targets) != 1 or isinstance(node.targets[0], (ast.Tuple, ast.List))):
        return ["L6 targets"]
    if kind == "Try" and node.finalbody or kind in ("For", "While") and node.orelse:
        return [f"L6 {kind}"]
    if kind == "Constant" and isinstance(node.value, (float, complex, bytes)):
        return ["L7 value"]
    if kind == "ListComp" and (len(node.generators) != 1 or len(node.generators[0].ifs) > 1):
        return ["L7 comprehension"]
    if kind == "FormattedValue" and (not isinstance(node.value, ast.Name) or node.format_spec):
        return ["L7 f-string"]
    if kind in ("FunctionDef", "ClassDef") and node.decorator_list:
        return ["L4 decorator"]
    if kind == "arguments" and (node.vararg or node.kwarg or node.kwonlyargs or node.posonlyargs):
        return ["L4 arguments"]
    if kind == "FunctionDef" and node.end_lineno - node.lineno >= 40:
        return [f"L10 {node.name}"]
    if kind == "Compare" and any(isinstance(sign, (ast.Is, ast.IsNot)) for sign in node.ops):
        sides = [node.left] + node.comparators
        if not any(isinstance(side, ast.Constant) and side.value in (None, True, False) for side in sides):
            return ["L20 is"]
    return []


def faults_of_top(tree):
    faults = []
    for place, node in enumerate(tree.body):
        written = place == 0 and isinstance(node, ast.Expr) and isinstance(node.value, ast.Constant)
        if not written and not isinstance(node, (ast.ImportFrom, ast.FunctionDef, ast.ClassDef, ast.Assign)):
            faults.append(f"L3 row {node.lineno}")
    tops = [name for node in tree.body for name in top_names(node)]
    faults += [f"L15 {name} twice" for name in set(tops) if tops.count(name) > 1]
    kept = {name for node in tree.body if isinstance(node, (ast.ClassDef, ast.ImportFrom)) for name in top_names(node)}
    for node in ast.walk(tree):
        if isinstance(node, ast.FunctionDef):
            inner = [name for part in node.body + [node.args] for name in bound_names(part)]
            faults += [f"L15 {name} within {node.name}" for name in inner if name in kept]
    return faults


def top_names(node):
    if isinstance(node, (ast.FunctionDef, ast.ClassDef)):
        return [node.name]
    if isinstance(node, ast.ImportFrom):
        return [alias.asname or alias.name for alias in node.names]
    if isinstance(node, ast.Assign):
        return [target.id for target in node.targets if isinstance(target, ast.Name)]
    return []


def faults_of_calls(tree, own_methods):
    faults = []
    for node in ast.walk(tree):
        if isinstance(node, ast.Call) and isinstance(node.func, ast.Attribute):
            if node.func.attr not in METHODS and node.func.attr not in own_methods:
                faults.append(f"L25 {node.func.attr}")
    return faults


def methods_of(tree):
    classes = [node for node in ast.walk(tree) if isinstance(node, ast.ClassDef)]
    return {part.name for node in classes for part in node.body if isinstance(part, ast.FunctionDef)}


# From here on the rules are kept in a narrower form than they have: what the program can do without, it doesn't use.
WALKED = {"zip", "enumerate", "reversed", "range", "items", "keys", "values"}
WALKERS = {"list", "tuple", "dict", "sorted", "sum", "any", "all", "enumerate", "zip"}
CHANGERS = {"append", "clear", "extend", "insert", "pop", "remove", "reverse", "setdefault", "update"}
TAKEN = {name for kind in (str, int, list, dict, set, bytes, tuple, Exception) for name in dir(kind)}


def called(node):
    """The name of what is called, a method or not."""
    if not isinstance(node, ast.Call):
        return None
    return node.func.attr if isinstance(node.func, ast.Attribute) else getattr(node.func, "id", None)


def narrow_faults_of_node(node):
    kind = node.__class__.__name__
    if kind == "Lambda":
        return ["L13 lambda"]
    if kind == "Set" or kind == "Name" and node.id in ("set", "frozenset"):
        return ["L24 set"]
    if kind == "Try":
        return ["L19 try"]
    if kind == "Raise" and (not isinstance(node.exc, ast.Call) or node.cause):
        return ["L19 raise"]
    if kind == "arg" and node.annotation or kind == "FunctionDef" and node.returns:
        return ["L21 annotation"]
    if kind == "keyword":
        return ["L22 keyword"]
    if kind == "BinOp" and isinstance(node.op, ast.Pow):
        return ["L27 power"]
    if kind == "Constant" and isinstance(node.value, str) and "%" in node.value:
        return ["L27 text"]
    if kind == "FunctionDef" and node.name.startswith("__") and node.name != "__init__":
        return ["L28 method"]
    if kind == "Attribute" and isinstance(node.ctx, ast.Store) and node.attr in TAKEN:
        return ["L26 value"]
    if kind == "ClassDef":
        return faults_of_class(node)
    return []


def faults_of_class(node):
    if len(node.bases) > 1 or any(not isinstance(part, (ast.FunctionDef, ast.Pass)) for part in node.body):
        return ["L5 class"]
    names = [part.name for part in node.body if isinstance(part, ast.FunctionDef)]
    if len(set(names)) != len(names):
        return ["L18 twice"]
    makers = [part for part in node.body if isinstance(part, ast.FunctionDef) and part.name == "__init__"]
    returns = [each for part in makers for each in ast.walk(part) if isinstance(each, ast.Return)]
    return ["L28 return"] if returns else ["L26 method"] if TAKEN & set(names) - {"__init__"} else []


def faults_of_kept(tree):
    """Python's own functions and the program's classes stand where they are called (a class as a base too)."""
    called_here = {id(node.func) for node in ast.walk(tree) if isinstance(node, ast.Call)}
    called_here |= {id(base) for node in ast.walk(tree) if isinstance(node, ast.ClassDef) for base in node.bases}
    found = []
    for node in ast.walk(tree):
        if isinstance(node, ast.Name) and isinstance(node.ctx, ast.Load) and id(node) not in called_here:
            if node.id in BUILT_IN:
                found.append(f"L22 {node.id}")
            elif node.id[0].isupper() and not node.id.isupper():
                found.append(f"L18 {node.id}")
    return found


def faults_of_walks(tree):
    """What is only to be walked is walked where it stands."""
    good = set()
    for node in ast.walk(tree):
        if isinstance(node, (ast.For, ast.comprehension)):
            good.add(id(node.iter))
        elif called(node) in WALKERS:
            good |= {id(part) for part in (node.args if called(node) == "zip" else node.args[:1])}
    return [f"L23 {called(node)}" for node in ast.walk(tree) if called(node) in WALKED and id(node) not in good]


def changed_in(part):
    """What a statement changes, as it is written."""
    if called(part) in CHANGERS and isinstance(part.func, ast.Attribute):
        return [ast.dump(part.func.value)]
    targets = part.targets if isinstance(part, ast.Assign) else [part.target] if isinstance(part, ast.AugAssign) else []
    return [ast.dump(target.value) for target in targets if isinstance(target, ast.Subscript)]


def faults_of_loops(tree):
    """What a loop walks isn't changed in it."""
    found = []
    for node in ast.walk(tree):
        if isinstance(node, ast.For):
            walked = [node.iter] + (node.iter.args if called(node.iter) in WALKED else [])
            marks = [ast.dump(part) for part in walked]
            changed = [mark for part in ast.walk(node) for mark in changed_in(part)]
            found += [f"L23 row {node.lineno}" for mark in changed if mark in marks]
    return found


def faults_of_values(tree):
    """A file's top gives names to whole numbers and texts alone; these can't be changed."""
    given = [node for node in tree.body if isinstance(node, ast.Assign)]
    return [f"L15 row {node.lineno}" for node in given if not isinstance(node.value, ast.Constant)]


def narrow_faults(text):
    tree = ast.parse(text)
    nodes = [fault for node in ast.walk(tree) for fault in narrow_faults_of_node(node)]
    rows = ["L27 escape"] if "\\" in text else []
    return (nodes + rows + faults_of_kept(tree) + faults_of_walks(tree) + faults_of_loops(tree)
            + faults_of_values(tree))


def faults(text):
    tree = ast.parse(text)
    nodes = [fault for node in ast.walk(tree) for fault in faults_of_node(node)]
    return (nodes + faults_of_rows(text) + faults_of_names(tree) + faults_of_top(tree)
            + faults_of_calls(tree, methods_of(tree)))


def files():
    return {path.stem: path.read_bytes().decode("utf-8") for path in sorted(PACKAGE.glob("*.py"))}


def imports_of(text):
    return [node for node in ast.walk(ast.parse(text)) if isinstance(node, ast.ImportFrom)]


class Language(unittest.TestCase):
    def test_only_plain_files_lie_in_the_package(self):
        for path in PACKAGE.iterdir():
            if path.name != "__pycache__":
                self.assertRegex(path.name, r"^(__init__|__main__|[a-z][a-z0-9_]*)\.py$")
        self.assertIn("__init__", files())

    def test_each_file_keeps_to_the_rules(self):
        for name, text in files().items():
            with self.subTest(name):
                self.assertEqual(faults(text) + narrow_faults(text), [])

    def test_imports_are_from_the_defining_file(self):
        texts = files()
        for name, text in texts.items():
            for node in imports_of(text):
                with self.subTest(name, row=node.lineno):
                    self.assertEqual(node.level, 0)
                    package, _, module = node.module.partition(".")
                    self.assertEqual(package, "arrowhall")
                    body = ast.parse(texts[module]).body
                    defined = [top for part in body if not isinstance(part, ast.ImportFrom) for top in top_names(part)]
                    for alias in node.names:
                        self.assertIn(alias.name, defined)

    def test_no_two_files_draw_from_one_another(self):
        drawn = {name: {node.module.partition(".")[2] for node in imports_of(text)} for name, text in files().items()}
        while drawn:
            free = [name for name, others in drawn.items() if not others & set(drawn)]
            self.assertTrue(free, drawn)
            for name in free:
                drawn.pop(name)


BROKEN = [
    ("L3", "print(1)\n"),
    ("L4", "def f(*args):\n    pass\n"),
    ("L4", "@g\ndef f():\n    pass\n"),
    ("L6", "import sys\n"),
    ("L6", "x = y = 1\n"),
    ("L6", "x, y = 1, 2\n"),
    ("L6", "x = 1 / 2\n"),
    ("L6", "def f():\n    yield 1\n"),
    ("L6", "def f(a):\n    assert a\n"),
    ("L6", "def f():\n    with f:\n        pass\n"),
    ("L6", "x = {a for a in b}\n"),
    ("L6", "def f(a):\n    for b in a:\n        pass\n    else:\n        pass\n"),
    ("L7", "x = 1.5\n"),
    ("L7", "x = [a for b in c for a in b]\n"),
    ("L7", "def f(x):\n    return f'{x:3}'\n"),
    ("L8", "def f(x):\n    return map(x)\n"),
    ("L10", "x = 1" + " " * 120 + "\n"),
    ("L10", "\n" * 401),
    ("L10", "def f():\n" + "    pass\n" * 40),
    ("L12", "def f(_x):\n    pass\n"),
    ("L14", "# \u00e4\n"),
    ("L14", "def f():\n\tpass\n"),
    ("L15", "a = 1\na = 2\n"),
    ("L15", "def f(len):\n    pass\n"),
    ("L15", "class A:\n    pass\n\n\ndef f(A):\n    pass\n"),
    ("L17", "# the type\n"),
    ("L17", "def f(x):\n    x.register()\n"),
    ("L20", "def f(x):\n    return x is f\n"),
    ("L25", "def f(x):\n    x.sort()\n"),
]

NARROWLY_BROKEN = [
    ("L5", "class A:\n    x = 1\n"),
    ("L13", "def f(xs):\n    return g(lambda x: x)\n"),
    ("L15", "XS = [1]\n"),
    ("L18", "class Ab:\n    pass\n\n\ndef f():\n    return Ab\n"),
    ("L18", "class A:\n    def f(self):\n        pass\n\n    def f(self):\n        pass\n"),
    ("L19", "def f(x):\n    try:\n        g(x)\n    except KeyError:\n        pass\n"),
    ("L19", "def f(e):\n    raise e\n"),
    ("L21", "def f(x: int):\n    pass\n"),
    ("L21", "def f(x) -> int:\n    pass\n"),
    ("L22", "def f(xs):\n    return sorted(xs, reverse=True)\n"),
    ("L22", "def f(xs):\n    return g(len, xs)\n"),
    ("L23", "def f(xs):\n    ys = range(3)\n"),
    ("L23", "def f(xs):\n    return xs.items()\n"),
    ("L23", "def f(xs):\n    for x in xs:\n        xs.append(x)\n"),
    ("L23", "def f(xs):\n    for i, x in enumerate(xs):\n        xs[i] = x\n"),
    ("L24", "def f(xs):\n    return len(set(xs))\n"),
    ("L26", "class A:\n    def __init__(self):\n        self.items = 1\n"),
    ("L26", "class A:\n    def format(self):\n        pass\n"),
    ("L27", "def f(n):\n    return 2 ** n\n"),
    ("L27", "X = 'a%'\n"),
    ("L27", "X = 'a\\x41'\n"),
    ("L28", "class A:\n    def __len__(self):\n        return 3\n"),
    ("L28", "class A:\n    def __init__(self):\n        return None\n"),
]


class TheRulesBite(unittest.TestCase):
    def test_each_of_these_is_found(self):
        for rule, text in BROKEN:
            with self.subTest(rule, text=text[:60]):
                self.assertIn(rule, [fault.split()[0] for fault in faults(text)])

    def test_each_of_these_is_found_by_the_narrower_rules(self):
        for rule, text in NARROWLY_BROKEN:
            with self.subTest(rule, text=text[:60]):
                self.assertIn(rule, [fault.split()[0] for fault in narrow_faults(text)])

    def test_a_plain_file_is_let_by(self):
        plain = '"""Plain."""\n\nMOST = 3\n\n\ndef f(xs):\n    return [x + MOST for x in xs if x]\n'
        self.assertEqual(faults(plain) + narrow_faults(plain), [])


if __name__ == "__main__":
    unittest.main()
