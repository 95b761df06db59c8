"""The rules of LANGUAGE.md that a look at each file of the package by itself can see."""

import ast
import builtins
import pathlib
import re
import unittest

PACKAGE = pathlib.Path(__file__).resolve().parent.parent / "clonewood"
KINDS = """
Module FunctionDef ClassDef Return Assign AugAssign AnnAssign For While If Raise Try ImportFrom Expr Pass Break Continue
BoolOp BinOp UnaryOp Lambda IfExp Dict Set ListComp Compare Call JoinedStr FormattedValue Constant Attribute Subscript
Name List Tuple Slice comprehension ExceptHandler arguments arg keyword alias Load Store And Or Not
Add Sub Mult FloorDiv Mod Pow LShift RShift BitOr BitXor BitAnd Invert UAdd USub
Eq NotEq Lt LtE Gt GtE Is IsNot In NotIn
""".split()
OWN_NAMES = """
len range enumerate zip min max sum abs sorted reversed int str bool list tuple dict set frozenset isinstance ord repr
any all divmod Exception ValueError TypeError KeyError IndexError LookupError ZeroDivisionError ArithmeticError
OverflowError RuntimeError NotImplementedError AttributeError StopIteration
""".split()
UNDERSCORED = ["__init__", "__eq__", "__repr__", "__str__", "__len__", "__all__", "__version__"]
BARRED_WORDS = """
type typing typing_extensions enum Enum IntEnum StrEnum Flag IntFlag Generic Protocol ABC ABCMeta namedtuple NamedTuple
TypedDict TYPE_CHECKING abstractmethod
""".split()
BARRED_PARTS = ["dataclass", "overload", "contextmanager"]
BARRED_NAMES = "register mro elements open input version_info with_traceback add_note format format_map".split()


def names_in(node):
    """The names that a node uses or gives, by its own fields."""
    named = [getattr(node, field, None) for field in ("id", "attr", "arg", "name", "asname")]
    return [name for name in named if isinstance(name, str)]


def faults_of_text(text):
    lines = text.split("\n")
    faults = [f"L14 sign {sign!r}" for sign in text if sign != "\n" and not " " <= sign <= "~"]
    faults += [f"L10 line {at}" for at, line in enumerate(lines, 1) if len(line) > 120]
    faults += ["L10 file"] if len(lines) > 401 else []
    faults += [f"L17 {word}" for word in BARRED_WORDS if re.search(rf"\b{word}\b", text)]
    return faults + [f"L17 {part}" for part in BARRED_PARTS if part in text]


def faults_of_def(node):
    told = node.args
    faults = ["L4 parameters"] if told.vararg or told.kwarg or told.kwonlyargs or told.posonlyargs else []
    faults += ["L4 decorator"] if node.decorator_list else []
    return faults + (["L10 def"] if node.end_lineno - node.lineno >= 40 else [])


def faults_of_names(node):
    faults = [f"L12 {name}" for name in names_in(node) if not re.fullmatch("[A-Za-z][A-Za-z0-9_.]*", name)
              and name not in UNDERSCORED and not isinstance(node, ast.ImportFrom)]
    faults += [f"L17 {name}" for name in names_in(node) if name in BARRED_NAMES]
    if isinstance(node, ast.Name) and hasattr(builtins, node.id) and node.id not in OWN_NAMES:
        faults.append(f"L8 {node.id}")
    return faults


def faults_of_node(node):
    faults = [] if type(node).__name__ in KINDS else [f"L6 or L7 {type(node).__name__}"]
    faults += faults_of_names(node)
    if isinstance(node, ast.FunctionDef):
        faults += faults_of_def(node)
    if isinstance(node, ast.ClassDef):
        faults += ["L5"] if node.decorator_list or node.keywords or len(node.bases) > 1 else []
        faults += ["L5 body"] if any(not isinstance(part, (ast.FunctionDef, ast.Pass)) for part in node.body) else []
    if isinstance(node, ast.ImportFrom):
        faults += [] if not node.level and node.module.startswith(("clonewood.", "__future__")) else ["L2"]
    if isinstance(node, ast.Constant):
        faults += ["L7 value"] if isinstance(node.value, (float, complex, bytes)) else []
        faults += ["L27 sign"] if isinstance(node.value, str) and "%" in node.value else []
    if isinstance(node, (ast.For, ast.While)):
        faults += ["L6 else"] if node.orelse else []
    if isinstance(node, ast.Assign):
        faults += ["L6 targets"] if len(node.targets) != 1 else []
    if isinstance(node, ast.Compare):
        sides = [node.left, *node.comparators]
        plain = any(isinstance(side, ast.Constant) and isinstance(side.value, (bool, type(None))) for side in sides)
        faults += ["L20"] if any(isinstance(op, (ast.Is, ast.IsNot)) for op in node.ops) and not plain else []
    return [f"{fault} (line {getattr(node, 'lineno', 0)})" for fault in faults]


def faults_of(text):
    return faults_of_text(text) + [fault for node in ast.walk(ast.parse(text)) for fault in faults_of_node(node)]


class TheLanguage(unittest.TestCase):
    def test_what_lies_in_the_package(self):
        found = [path for path in PACKAGE.iterdir() if path.name != "__pycache__"]
        self.assertIn("__init__.py", [path.name for path in found])
        for path in found:
            with self.subTest(path.name):
                self.assertTrue(path.is_file())
                self.assertRegex(path.name, r"\A([a-z][a-z0-9_]*|__init__)\.py\Z")

    def test_every_file_keeps_to_the_rules(self):
        for path in sorted(PACKAGE.glob("*.py")):
            with self.subTest(path.name):
                self.assertEqual(faults_of(path.read_text(encoding="utf-8")), [])

    def test_code_outside_the_rules_is_seen(self):
        for text in (
            "import os\n", "from .words import is_word\n", "x = 1.5\n", "x = 4 / 2\n", "x = y = 1\n", "x = b'a'\n",
            "def f(*a):\n    pass\n", "def f(**a):\n    pass\n", "def f(*, a):\n    pass\n", "@g\ndef f():\n    pass\n",
            "class A(B, C):\n    pass\n", "class A:\n    x = 1\n", "x = print(1)\n", "x = getattr(a, 'b')\n",
            "_x = 1\n", "x = a is b\n", "x = a is 1\n", "x = {a for a in b}\n", "x = sum(a for a in b)\n", "x = 'a%s'\n",
            "for a in b:\n    pass\nelse:\n    pass\n", "with a:\n    pass\n", "assert x\n", "x = [*a]\n", "x = (y := 1)\n",
            "# a type\n", "x = 'caf\u00e9'\n", "x\t= 1\n", "x = 1" + " " * 120 + "\n", "x = 1\n" * 401,
            "def f():\n" + "    pass\n" * 40,
        ):
            with self.subTest(text[:40]):
                self.assertNotEqual(faults_of(text), [])


if __name__ == "__main__":
    unittest.main()
