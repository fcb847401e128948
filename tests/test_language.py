"""Holds the package to those rules of the language that a walk over the code can see."""

import ast
import builtins
import io
import re
import tokenize
import unittest
from pathlib import Path

PACKAGE = Path(__file__).resolve().parent.parent / "chanceduel"

STATEMENTS = (
    ast.FunctionDef, ast.ClassDef, ast.ImportFrom, ast.Assign, ast.AugAssign, ast.If, ast.While, ast.For,
    ast.Return, ast.Break, ast.Continue, ast.Pass, ast.Raise, ast.Try, ast.Expr)
EXPRESSIONS = (
    ast.Constant, ast.List, ast.Tuple, ast.Dict, ast.Set, ast.BinOp, ast.UnaryOp, ast.BoolOp, ast.Compare,
    ast.IfExp, ast.Call, ast.Attribute, ast.Subscript, ast.Slice, ast.ListComp, ast.JoinedStr,
    ast.FormattedValue, ast.Name, ast.Lambda)
OWN_NAMES = set("""len range enumerate zip min max sum abs sorted reversed int str bool list tuple dict set
    frozenset isinstance ord repr any all divmod Exception ValueError TypeError KeyError IndexError
    LookupError ZeroDivisionError ArithmeticError OverflowError RuntimeError NotImplementedError
    AttributeError StopIteration""".split())
OWN_METHODS = set("""append clear copy count endswith extend find get index insert isalnum isalpha isdigit
    islower isspace isupper items join keys ljust lower lstrip partition pop remove replace reverse rfind
    rjust rpartition rsplit rstrip setdefault split splitlines startswith strip update upper values zfill
    bit_length""".split())
DUNDERS = set("__init__ __eq__ __repr__ __str__ __len__".split())
BANNED_NAMES = set("""register mro elements open input version_info with_traceback add_note format
    format_map attrgetter breakpoint builtins compile copyright credits delattr dir eval exec exit gc
    getattr globals hasattr help id importlib license locals methodcaller os quit setattr super type vars
    sys""".split())
BANNED_WORDS = re.compile(
    r"\b(type|typing|typing_extensions|enum|Enum|IntEnum|StrEnum|Flag|IntFlag|Generic|Protocol|ABC|ABCMeta"
    r"|namedtuple|NamedTuple|TypedDict|TYPE_CHECKING|abstractmethod)\b|dataclass|overload|contextmanager")
BUILTINS = set(dir(builtins))
WALKS = {"zip", "enumerate", "reversed", "range", "items", "keys", "values"}
WALKERS = {"list", "tuple", "dict", "sorted", "sum", "any", "all", "enumerate", "zip", "min", "max"}
KEYWORDS = {
    "sorted": {"key", "reverse"}, "min": {"key", "default"}, "max": {"key", "default"}, "sum": {"start"},
    "enumerate": {"start"}, "zip": {"strict"}}
VALUE_NAMES = set("count index title find get join lower upper split strip copy add".split())
METHOD_NAMES = OWN_METHODS | {"add", "discard"}
TAKEN_NAMES = {name for kind in (str, int, list, tuple, dict, set, frozenset, bytes) for name in dir(kind)}


def faults(source, own_methods=()):
    """The rules that a file's text breaks, as (rule, line) pairs."""
    tree = ast.parse(source)
    found = text_faults(source) + top_faults(tree)
    for node in ast.walk(tree):
        line = getattr(node, "lineno", 0)
        found += [(rule, line) for rule in node_faults(node, set(own_methods))]
        for child in ast.iter_child_nodes(node):
            if is_walk(child) and not walks(node, child):
                found.append(("L23", line))
    return sorted(set(found))


def called_name(node):
    if not isinstance(node, ast.Call):
        return None
    return node.func.id if isinstance(node.func, ast.Name) else getattr(node.func, "attr", None)


def is_walk(node):
    return called_name(node) in WALKS


def walks(node, child):
    """Whether the node walks its child on the spot."""
    if isinstance(node, (ast.For, ast.comprehension)):
        return node.iter is child
    name = called_name(node)
    if name == "join":
        return isinstance(node.func.value, ast.Constant)
    return name in WALKERS and node.args[:1] == [child]


def class_parts(tree):
    """The names of methods and of values of the file's classes."""
    methods = set()
    values = set()
    for kind in [node for node in ast.walk(tree) if isinstance(node, ast.ClassDef)]:
        methods |= {part.name for part in kind.body if isinstance(part, ast.FunctionDef)}
        values |= {node.attr for node in ast.walk(kind)
                   if isinstance(node, ast.Attribute) and isinstance(node.ctx, ast.Store)}
    return methods - DUNDERS, values


def class_faults(trees):
    """The rules that the classes of all files together break, with the name."""
    methods = set()
    values = set()
    for tree in trees:
        parts = class_parts(tree)
        methods |= parts[0]
        values |= parts[1]
    found = [("L18", name) for name in methods & values]
    found += [("L26", name) for name in (methods & TAKEN_NAMES) - METHOD_NAMES]
    found += [("L26", name) for name in (values & TAKEN_NAMES) - VALUE_NAMES]
    return sorted(found)


def drawn_from(tree):
    return [node.module for node in ast.walk(tree) if isinstance(node, ast.ImportFrom)]


def in_a_ring(draws):
    """The files that draw from themselves, in whatever many steps."""
    found = []
    for name in draws:
        reached = []
        ahead = list(draws[name])
        while ahead:
            step = ahead.pop()
            if step not in reached:
                reached.append(step)
                ahead += draws.get(step, [])
        if name in reached:
            found.append(name)
    return found


def text_faults(source):
    found = []
    rows = source.split("\n")
    if len(rows) > 401:
        found.append(("L10", 401))
    for number, row in enumerate(rows, start=1):
        if len(row) > 120 or "\t" in row:
            found.append(("L10", number))
        if not all(" " <= sign <= "~" for sign in row):
            found.append(("L14", number))
        if BANNED_WORDS.search(row):
            found.append(("L17", number))
    for token in tokenize.generate_tokens(io.StringIO(source).readline):
        if token.type == tokenize.STRING and re.search(r"\\[^nt\\'\"]", token.string):
            found.append(("L27", token.start[0]))
    return found


def top_faults(tree):
    found = []
    names = {}
    for at, node in enumerate(tree.body):
        kinds = (ast.ImportFrom, ast.FunctionDef, ast.ClassDef, ast.Assign)
        docstring = at == 0 and isinstance(node, ast.Expr) and isinstance(node.value, ast.Constant)
        if not isinstance(node, kinds) and not docstring:
            found.append(("L3", node.lineno))
        bound = []
        if isinstance(node, ast.ImportFrom):
            bound = [entry.name for entry in node.names]
        elif isinstance(node, ast.Assign):
            bound = [getattr(target, "id", "") for target in node.targets]
        elif isinstance(node, (ast.FunctionDef, ast.ClassDef)):
            bound = [node.name]
        for name in bound:
            if name in names:
                found.append(("L15", node.lineno))
            names[name] = True
    outer = {name for node in tree.body if isinstance(node, (ast.ImportFrom, ast.ClassDef))
             for name in ([entry.name for entry in node.names] if isinstance(node, ast.ImportFrom) else [node.name])}
    for node in ast.walk(tree):
        local = node.arg if isinstance(node, ast.arg) else getattr(node, "id", None)
        stored = isinstance(node, ast.arg) or isinstance(getattr(node, "ctx", None), ast.Store)
        if stored and (local in outer or local in BUILTINS):
            found.append(("L15", node.lineno))
    return found


def node_faults(node, own_methods):
    found = []
    if isinstance(node, ast.stmt) and not isinstance(node, STATEMENTS):
        found.append("L6")
    if isinstance(node, ast.expr) and not isinstance(node, EXPRESSIONS):
        found.append("L7")
    for check in (import_faults, def_faults, statement_faults, expression_faults, name_faults):
        found += check(node)
    if isinstance(node, ast.Call):
        allowed = KEYWORDS.get(called_name(node), set()) if called_name(node) in OWN_NAMES | OWN_METHODS else None
        if allowed is not None and {keyword.arg for keyword in node.keywords} - allowed:
            found.append("L22")
    if isinstance(node, ast.Call) and isinstance(node.func, ast.Attribute):
        if node.func.attr not in OWN_METHODS | own_methods | {"__init__"}:
            found.append("L25")
    return found


def import_faults(node):
    if not isinstance(node, ast.ImportFrom):
        return []
    renamed = any(entry.asname or entry.name == "*" for entry in node.names)
    future = node.module == "__future__" and [entry.name for entry in node.names] == ["annotations"]
    if node.level or renamed or not (future or (node.module or "").startswith("chanceduel.")):
        return ["L2"]
    return []


def def_faults(node):
    found = []
    if isinstance(node, ast.FunctionDef):
        rules = node.args
        if rules.vararg or rules.kwarg or rules.kwonlyargs or rules.posonlyargs or node.decorator_list:
            found.append("L4")
        if node.end_lineno - node.lineno + 1 > 40:
            found.append("L10")
    if isinstance(node, ast.ClassDef):
        plain = all(isinstance(part, (ast.FunctionDef, ast.Pass)) for part in node.body)
        if len(node.bases) > 1 or node.keywords or node.decorator_list or not plain:
            found.append("L5")
    return found


def statement_faults(node):
    found = []
    if isinstance(node, (ast.For, ast.While)) and node.orelse:
        found.append("L6")
    if isinstance(node, ast.Assign) and len(node.targets) > 1:
        found.append("L6")
    if isinstance(node, ast.Try):
        if node.finalbody or any(handler.type is None for handler in node.handlers):
            found.append("L6")
    if isinstance(node, ast.ExceptHandler) and node.type is not None:
        taken = [part.id for part in ast.walk(node.type) if isinstance(part, ast.Name)]
        if "Exception" in taken or "TypeError" in taken:
            found.append("L19")
    if isinstance(node, ast.Raise) and not isinstance(node.exc, ast.Call):
        found.append("L19")
    return found


def expression_faults(node):
    found = []
    if isinstance(node, ast.BinOp) and isinstance(node.op, (ast.Div, ast.MatMult)):
        found.append("L7")
    if isinstance(node, ast.AugAssign) and isinstance(node.op, (ast.Div, ast.MatMult)):
        found.append("L7")
    if isinstance(node, ast.Constant):
        if isinstance(node.value, (float, complex, bytes)):
            found.append("L7")
        if isinstance(node.value, str) and "%" in node.value:
            found.append("L27")
    if isinstance(node, ast.ListComp) and (len(node.generators) > 1 or len(node.generators[0].ifs) > 1):
        found.append("L7")
    if isinstance(node, ast.FormattedValue):
        if not isinstance(node.value, ast.Name) or node.format_spec or node.conversion not in (-1, ord("r")):
            found.append("L7")
    if isinstance(node, ast.Compare) and any(isinstance(op, (ast.Is, ast.IsNot)) for op in node.ops):
        if not any(isinstance(side, ast.Constant) for side in [node.left] + node.comparators):
            found.append("L20")
    return found


def name_faults(node):
    found = []
    names = [getattr(node, field, None) for field in ("id", "name", "arg", "attr")]
    for name in [name for name in names if isinstance(name, str)]:
        if name in BANNED_NAMES:
            found.append("L17")
        if not re.fullmatch(r"[A-Za-z][A-Za-z0-9_]*", name) and name not in DUNDERS:
            found.append("L12")
    if isinstance(node, ast.Name) and node.id in BUILTINS and node.id not in OWN_NAMES:
        found.append("L8")
    return found


def package_methods():
    names = set()
    for path in PACKAGE.rglob("*.py"):
        for node in ast.walk(ast.parse(path.read_text("ascii"))):
            if isinstance(node, ast.ClassDef):
                names |= {part.name for part in node.body if isinstance(part, ast.FunctionDef)}
    return names


class Package(unittest.TestCase):
    def test_only_plain_files(self):
        for path in PACKAGE.iterdir():
            if path.name == "__pycache__":
                continue
            with self.subTest(path=path.name):
                self.assertTrue(path.is_file())
                self.assertRegex(path.name, r"\A(__init__|[a-z][a-z0-9_]*)\.py\Z")
                self.assertNotIn(path.stem, BUILTINS | {"test", "tests", "testing", "site", "conftest"})
                self.assertFalse(path.stem.startswith("test_"))

    def test_every_file_keeps_the_rules(self):
        methods = package_methods()
        paths = sorted(PACKAGE.rglob("*.py"))
        self.assertIn(PACKAGE / "__init__.py", paths)
        for path in paths:
            with self.subTest(path=path.name):
                self.assertEqual(faults(path.read_text("ascii"), methods), [])

    def test_imports_are_of_names_that_the_file_defines(self):
        for path in sorted(PACKAGE.rglob("*.py")):
            for node in ast.walk(ast.parse(path.read_text("ascii"))):
                if isinstance(node, ast.ImportFrom) and node.module != "__future__":
                    drawn = PACKAGE.parent / (node.module.replace(".", "/") + ".py")
                    defined = {getattr(part, "name", None) for part in ast.parse(drawn.read_text("ascii")).body}
                    defined |= {target.id for part in ast.parse(drawn.read_text("ascii")).body
                                if isinstance(part, ast.Assign) for target in part.targets}
                    for entry in node.names:
                        with self.subTest(path=path.name, name=entry.name):
                            self.assertIn(entry.name, defined)

    def test_classes_of_all_files(self):
        trees = [ast.parse(path.read_text("ascii")) for path in sorted(PACKAGE.rglob("*.py"))]
        self.assertEqual(class_faults(trees), [])

    def test_no_files_draw_from_one_another(self):
        draws = {"chanceduel." + path.stem: drawn_from(ast.parse(path.read_text("ascii")))
                 for path in PACKAGE.rglob("*.py")}
        self.assertEqual(in_a_ring(draws), [])


class BrokenRules(unittest.TestCase):
    def test_classes(self):
        one = "class A:\n    def share(self):\n        return 1\n"
        other = "class B:\n    def __init__(self):\n        self.share = 1\n"
        self.assertEqual(class_faults([ast.parse(one)]), [])
        self.assertEqual(class_faults([ast.parse(one), ast.parse(other)]), [("L18", "share")])
        self.assertEqual(class_faults([ast.parse(one.replace("share", "title"))]), [("L26", "title")])
        self.assertEqual(class_faults([ast.parse(other.replace("share", "items"))]), [("L26", "items")])

    def test_rings(self):
        self.assertEqual(in_a_ring({"a": ["b", "c"], "b": ["c"], "c": []}), [])
        self.assertEqual(in_a_ring({"a": ["b"], "b": ["c"], "c": ["a"], "d": ["a"]}), ["a", "b", "c"])

    def test_each_is_seen(self):
        for rule, source in (
                ("L2", "from math import gcd\n"), ("L2", "from .errors import NoText\n"), ("L6", "import math\n"),
                ("L3", "print(1)\n"), ("L4", "def f(*args):\n    return args\n"), ("L5", "class A:\n    x = 1\n"),
                ("L6", "def f():\n    a = b = 1\n"), ("L6", "def f(x):\n    assert x\n"),
                ("L6", "def f(x):\n    del x[0]\n"), ("L7", "def f(x):\n    return x / 2\n"),
                ("L7", "A = 1.5\n"), ("L7", "def f(x):\n    return any(y for y in x)\n"),
                ("L7", "def f(x):\n    return f'{x[0]}'\n"), ("L7", "def f(x):\n    return {y for y in x}\n"),
                ("L8", "def f(x):\n    return hash(x)\n"), ("L8", "def f(x):\n    return chr(x)\n"),
                ("L10", "def f():\n" + "    pass\n" * 40), ("L10", "# " + "a" * 119 + "\n"),
                ("L12", "def f(x):\n    _y = x\n"), ("L14", "# \u00e9\n"), ("L15", "A = 1\nA = 2\n"),
                ("L15", "def f(id):\n    return id\n"), ("L17", "# the type of it\n"),
                ("L17", "def f(x):\n    return getattr(x, 'y')\n"), ("L19", "def f(e):\n    raise e\n"),
                ("L20", "def f(x, y):\n    return x is y\n"), ("L25", "def f(x):\n    return x.sort()\n"),
                ("L22", "def f(x):\n    return int(x, base=3)\n"), ("L22", "def f(x):\n    return x.split(maxsplit=2)\n"),
                ("L23", "def f(x):\n    y = zip(x, x)\n    return y\n"), ("L23", "def f(x):\n    return x.items()\n"),
                ("L23", "def f(x):\n    return len(range(x))\n"),
                ("L27", "A = '%d'\n"), ("L27", "A = '\\x41'\n")):
            with self.subTest(rule=rule, source=source):
                self.assertIn(rule, [found for found, line in faults(source)])

    def test_plain_code_is_let_through(self):
        source = '"""A file."""\n\nA = (1, "x")\n\n\ndef f(x):\n    return [y for y in x if y is not None]\n'
        self.assertEqual(faults(source), [])


if __name__ == "__main__":
    unittest.main()
