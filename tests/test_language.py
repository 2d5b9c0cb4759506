"""Holds the package to ../shared/LANGUAGE.md, as far as a walk over its syntax trees can see it."""

import ast
import builtins
import pathlib
import re
import textwrap
import unittest

PACKAGE = pathlib.Path(__file__).resolve().parent.parent / "pageback"

NODES = """
Module FunctionDef ClassDef Return Assign AugAssign For While If Raise Try ExceptHandler ImportFrom Expr Pass Break
Continue BoolOp And Or BinOp Add Sub Mult FloorDiv Mod Pow LShift RShift BitOr BitXor BitAnd UnaryOp Not USub UAdd
Invert Lambda IfExp Dict ListComp comprehension Compare Eq NotEq Lt LtE Gt GtE Is IsNot In NotIn Call JoinedStr
FormattedValue Constant Attribute Subscript Name List Tuple Slice Load Store arguments arg keyword alias
""".split()
OWN_NAMES = """
len range enumerate zip min max sum abs sorted reversed int str bool list tuple dict set frozenset isinstance ord repr
any all divmod Exception ValueError TypeError KeyError IndexError LookupError ZeroDivisionError ArithmeticError
OverflowError RuntimeError NotImplementedError AttributeError StopIteration
""".split()
METHODS = """
append clear copy count endswith extend find get index insert isalnum isalpha isdigit islower isspace isupper items
join keys ljust lower lstrip partition pop remove replace reverse rfind rjust rpartition rsplit rstrip setdefault split
splitlines startswith strip update upper values zfill bit_length
""".split()
UNDERSCORED = "__init__ __eq__ __repr__ __str__ __len__".split()
NOT_USED = """
register mro elements open input version_info with_traceback add_note attrgetter breakpoint builtins compile copyright
credits delattr dir eval exec exit gc getattr globals hasattr help id importlib license locals methodcaller os quit
setattr super type vars sys format format_map args encode sort
""".split()
CHANGING = "items keys values pop update append clear extend insert remove reverse setdefault sort args".split()
WORDS = re.compile(
    r"\b(type|typing|typing_extensions|enum|Enum|IntEnum|StrEnum|Flag|IntFlag|Generic|Protocol|ABC|ABCMeta|namedtuple"
    r"|NamedTuple|TypedDict|TYPE_CHECKING|abstractmethod)\b|dataclass|overload|contextmanager"
)


def faults_of_signs(source):
    rows = source.split("\n")
    yield from ("L10 line " + str(number) for number, row in enumerate(rows, 1) if len(row) > 120)
    if len(rows) > 401:
        yield "L10 file"
    if re.search(r"[^\n -~]", source):
        yield "L14 sign"
    yield from ("L17 " + found.group() for found in WORDS.finditer(source))


def faults_of_top(tree):
    names = []
    for number, node in enumerate(tree.body):
        if isinstance(node, ast.Assign) and len(node.targets) == 1 and isinstance(node.targets[0], ast.Name):
            names.append(node.targets[0].id)
            inner = ast.List, ast.Tuple, ast.Dict, ast.Constant, ast.Name, ast.UnaryOp, ast.USub, ast.Load
            if not all(isinstance(part, inner) for part in ast.walk(node.value)):
                yield "L3 value of " + names[-1]
        elif isinstance(node, (ast.FunctionDef, ast.ClassDef)):
            names.append(node.name)
        elif isinstance(node, ast.ImportFrom):
            names.extend(alias.asname or alias.name for alias in node.names)
            if node.level or not node.module.startswith("pageback.") or node.names[0].name == "*":
                yield "L2 import"
        elif number or not is_text(node):
            yield "L3 " + ast.dump(node)[:40]
    if len(set(names)) < len(names):
        yield "L15 name bound twice"


def faults_of_shadows(tree):
    """L15: no parameter and no local is called like a class or an import of its file."""
    taken = [node.name for node in tree.body if isinstance(node, ast.ClassDef)]
    for node in tree.body:
        if isinstance(node, ast.ImportFrom):
            taken.extend(alias.asname or alias.name for alias in node.names)
    for node in ast.walk(tree):
        if isinstance(node, ast.arg) and node.arg in taken:
            yield "L15 " + node.arg
        if isinstance(node, ast.Name) and isinstance(node.ctx, ast.Store) and node.id in taken:
            yield "L15 " + node.id


def faults_of_imports(trees):
    """L16: names come from the file that defines them, and no two files draw from one another."""
    draws = {}
    for name, tree in trees.items():
        draws[name] = []
        for node in tree.body:
            if isinstance(node, ast.ImportFrom):
                drawn = node.module.removeprefix("pageback.") + ".py"
                draws[name].append(drawn)
                own = defined_in(trees[drawn]) if drawn in trees else []
                yield from ("L16 " + alias.name for alias in node.names if alias.name not in own)
    for name in draws:
        reached = list(draws[name])
        for drawn in reached:
            reached.extend(other for other in draws.get(drawn, []) if other not in reached)
        if name in reached:
            yield "L16 ring of " + name


def defined_in(tree):
    names = [node.name for node in tree.body if isinstance(node, (ast.FunctionDef, ast.ClassDef))]
    return names + [node.targets[0].id for node in tree.body if isinstance(node, ast.Assign)]


def faults_of_classes(trees):
    """L18, L28: no method stands twice, no name is both a method and a value, and `__init__` gives back nothing."""
    methods = []
    values = []
    for tree in trees:
        for node in [node for node in ast.walk(tree) if isinstance(node, ast.ClassDef)]:
            own = [part.name for part in node.body if isinstance(part, ast.FunctionDef)]
            methods.extend(own)
            if len(set(own)) < len(own):
                yield "L18 method twice in " + node.name
            for part in node.body:
                if isinstance(part, ast.FunctionDef) and part.name == "__init__":
                    yield from ("L28 " + node.name for inner in ast.walk(part) if isinstance(inner, ast.Return))
        values.extend(node.attr for node in ast.walk(tree)
                      if isinstance(node, ast.Attribute) and isinstance(node.ctx, ast.Store))
    yield from ("L18 " + name for name in values if name in methods)
    yield from ("L26 " + name for name in values if name in CHANGING)


def is_text(node):
    return isinstance(node, ast.Expr) and isinstance(node.value, ast.Constant) and isinstance(node.value.value, str)


def faults_of_node(node, own_methods):
    if type(node).__name__ not in NODES:
        yield "L6/L7 " + type(node).__name__
    if isinstance(node, ast.FunctionDef):
        if node.end_lineno - node.lineno >= 40:
            yield "L10 " + node.name
        if node.decorator_list or node.args.vararg or node.args.kwarg or node.args.kwonlyargs or node.args.posonlyargs:
            yield "L4 " + node.name
        if node.name.startswith("_") and node.name not in UNDERSCORED:
            yield "L12 " + node.name
    if isinstance(node, ast.ClassDef):
        if len(node.bases) > 1 or node.keywords or node.decorator_list:
            yield "L5 " + node.name
        if not all(isinstance(part, (ast.FunctionDef, ast.Pass)) for part in node.body):
            yield "L5 body of " + node.name
    if isinstance(node, (ast.For, ast.While)) and node.orelse:
        yield "L6 else behind a loop"
    if isinstance(node, ast.Assign) and len(node.targets) > 1:
        yield "L6 targets"
    if isinstance(node, ast.Try) and (node.finalbody or not all(part.type for part in node.handlers)):
        yield "L6 try"
    if isinstance(node, ast.Name):
        yield from faults_of_name(node)
    if isinstance(node, ast.arg):
        yield from faults_of_bound(node.arg)
    if isinstance(node, ast.Attribute) and (node.attr in NOT_USED or node.attr.startswith("_")):
        if node.attr != "__init__":
            yield "L8/L12/L17 " + node.attr
    if isinstance(node, ast.Call) and isinstance(node.func, ast.Attribute):
        if node.func.attr not in METHODS + own_methods + ["__init__"]:
            yield "L25 " + node.func.attr
    if isinstance(node, ast.ListComp) and (len(node.generators) > 1 or len(node.generators[0].ifs) > 1):
        yield "L7 comprehension"
    if isinstance(node, ast.Constant) and not isinstance(node.value, (int, str, type(None))):
        yield "L7 " + repr(node.value)
    if isinstance(node, ast.Constant) and isinstance(node.value, str) and "%" in node.value:
        yield "L27 percent sign"
    if isinstance(node, ast.Compare) and any(isinstance(op, (ast.Is, ast.IsNot)) for op in node.ops):
        sides = [node.left] + node.comparators
        if not any(isinstance(side, ast.Constant) and side.value in (None, True, False) for side in sides):
            yield "L20 is"


def faults_of_name(node):
    if isinstance(node.ctx, ast.Store):
        yield from faults_of_bound(node.id)
    elif node.id in NOT_USED or hasattr(builtins, node.id) and node.id not in OWN_NAMES:
        yield "L8/L17 " + node.id


def faults_of_bound(name):
    if name.startswith("_") or name in NOT_USED or hasattr(builtins, name):
        yield "L12/L15 " + name


def methods_of(tree):
    classes = [node for node in tree.body if isinstance(node, ast.ClassDef)]
    return [part.name for node in classes for part in node.body if isinstance(part, ast.FunctionDef)]


def faults(source, own_methods=()):
    tree = ast.parse(source)
    found = list(faults_of_signs(source)) + list(faults_of_top(tree)) + list(faults_of_shadows(tree))
    for node in ast.walk(tree):
        if is_text(node) and node is not tree.body[0]:
            found.append("L6 text by itself")
        found.extend(faults_of_node(node, list(own_methods)))
    return found


class Package(unittest.TestCase):
    def test_files(self):
        for path in PACKAGE.iterdir():
            if path.name != "__pycache__":
                self.assertRegex(path.name, r"^(__init__|[a-z][a-z0-9_]*)\.py$")
        self.assertTrue((PACKAGE / "__init__.py").is_file())

    def test_every_file_keeps_to_the_language(self):
        sources = {path.name: path.read_text(encoding="utf-8") for path in sorted(PACKAGE.glob("*.py"))}
        own = [name for source in sources.values() for name in methods_of(ast.parse(source))]
        for name, source in sources.items():
            with self.subTest(name):
                self.assertEqual(faults(source, own), [])

    def test_imports(self):
        trees = {path.name: ast.parse(path.read_text(encoding="utf-8")) for path in PACKAGE.glob("*.py")}
        self.assertEqual(list(faults_of_imports(trees)), [])

    def test_classes(self):
        trees = [ast.parse(path.read_text(encoding="utf-8")) for path in PACKAGE.glob("*.py")]
        self.assertEqual(list(faults_of_classes(trees)), [])


class Check(unittest.TestCase):
    def test_lets_by(self):
        source = '''
            """Words."""

            from pageback.errors import NoRow

            MANY = 3


            def told(rows):
                if len(rows) > MANY:
                    raise NoRow(0)
                return [row for row in rows if row is not None]
        '''
        self.assertEqual(faults(textwrap.dedent(source).strip()), [])

    def test_finds(self):
        sources = [
            "import sys", "from .errors import NoRow", "from pageback.errors import *", "MANY = len('a')", "a = 1\na = 2",
            "def told(*rows):\n    return rows", "def told(rows):\n    return (row for row in rows)",
            "def told(rows):\n    return {row for row in rows}", "def told(a):\n    return a / 2",
            "def told(a):\n    return 1.5", "def told(a):\n    return chr(a)", "def told(a):\n    return a.title()",
            "def told(a):\n    b = c = a\n    return b", "def told(a, b):\n    return a is b",
            "def told(a):\n    assert a", "def told(a):\n    del a", "def told(a):\n    yield a",
            "def told(id):\n    return id", "def told(a):\n    _ = a", "def told(a):\n    return '%'",
            "def told(a):\n    # type\n    return a", "def told(a):\n    'Words.'\n    return a",
            "def told(a):\n    return [b for b in a for c in b]", "class One:\n    many = 3",
            "def told(a):\n" + "    a = a + 1\n" * 40, "def told(a):\n    return '" + "a" * 120 + "'",
            "from pageback.heads import rank\n\n\ndef told(rank):\n    return rank",
            "from pageback.heads import rank\n\n\ndef told(a):\n    return [rank for rank in a]",
            "def told(a):\n    return a\t", "def told(a):\n    # \u00e4\n    return a",
        ]
        for source in sources:
            with self.subTest(source):
                self.assertNotEqual(faults(source), [])

    def test_finds_in_imports(self):
        one = "from pageback.two import other\n\n\ndef told(a):\n    return other(a)"
        two = "from pageback.three import told\n\n\ndef other(a):\n    return told(a)"
        ring = {"one.py": one, "two.py": two, "three.py": one.replace("two", "one").replace("other", "told")}
        borrowed = {"one.py": one.replace("other", "told"), "two.py": two, "three.py": "def told(a):\n    return a"}
        missing = {"one.py": one}
        right = {"one.py": one, "two.py": two, "three.py": "def told(a):\n    return a"}
        for sources in (ring, borrowed, missing):
            self.assertNotEqual(list(faults_of_imports({name: ast.parse(text) for name, text in sources.items()})), [])
        self.assertEqual(list(faults_of_imports({name: ast.parse(text) for name, text in right.items()})), [])

    def test_finds_in_classes(self):
        one = "class One:\n    def __init__(self, rows):\n        self.kept = rows"
        other = "class Other:\n    def rows(self):\n        return []"
        wrong = [
            [one, other.replace("rows", "kept")], [one + "\n        return None"], [other + other[12:]],
            [one.replace("kept", "update")],
        ]
        for sources in wrong:
            with self.subTest(sources):
                self.assertNotEqual(list(faults_of_classes([ast.parse(source) for source in sources])), [])
        self.assertEqual(list(faults_of_classes([ast.parse(one), ast.parse(other)])), [])


if __name__ == "__main__":
    unittest.main()
