"""The rules L13 to L28 of LANGUAGE.md that are seen by how names hang together, within a file and over the package."""

import ast
import builtins
import pathlib
import unittest

PACKAGE = pathlib.Path(__file__).resolve().parent.parent / "clonewood"
WALKED = ["zip", "enumerate", "reversed", "range"]
WALKED_METHODS = ["items", "keys", "values"]
WALKERS = ["list", "tuple", "dict", "sorted", "sum", "any", "all", "enumerate", "zip", "min", "max"]
METHODS = """
append clear copy count endswith extend find get index insert isalnum isalpha isdigit islower isspace isupper items join
keys ljust lower lstrip partition pop remove replace reverse rfind rjust rpartition rsplit rstrip setdefault split
splitlines startswith strip update upper values zfill bit_length
""".split()
VALUES = "count index title find get join lower upper split strip copy add".split()
CHECKED_KINDS = ["int", "str", "bool", "list", "tuple", "dict"]
KEYWORDS = {
    "sorted": ["key", "reverse"], "min": ["key", "default"], "max": ["key", "default"], "sum": ["start"],
    "enumerate": ["start"], "zip": ["strict"],
}
PYTHONS_OWN = {name for kind in (str, int, list, dict, set, frozenset, tuple, bytes, bool) for name in dir(kind)}


class Sheet:
    """A file of the package, with what its names are."""

    def __init__(self, name, text):
        self.name = name
        self.tree = ast.parse(text)
        self.above = {child: node for node in ast.walk(self.tree) for child in ast.iter_child_nodes(node)}
        self.imports = [(row.module, alias.name) for row in self.all(ast.ImportFrom) for alias in row.names]
        self.classes = [node.name for node in self.tree.body if isinstance(node, ast.ClassDef)]
        self.tops = self.classes + [node.name for node in self.tree.body if isinstance(node, ast.FunctionDef)]
        for node in self.tree.body:
            if isinstance(node, ast.Assign):
                self.tops += [target.id for target in node.targets]
        self.methods = [part.name for node in self.all(ast.ClassDef) for part in node.body
                        if isinstance(part, ast.FunctionDef)]
        self.values = [node.attr for node in self.all(ast.Attribute) if isinstance(node.ctx, ast.Store)]

    def all(self, kind):
        return [node for node in ast.walk(self.tree) if isinstance(node, kind)]

    def is_called(self, node):
        above = self.above[node]
        return isinstance(above, ast.Call) and above.func is node

    def is_key(self, node):
        return isinstance(self.above[node], ast.keyword) and self.above[node].arg == "key"

    def is_walked(self, node):
        above = self.above[node]
        if isinstance(above, (ast.For, ast.comprehension)):
            return above.iter is node
        if not isinstance(above, ast.Call) or node not in above.args[:1]:
            return False
        return called(above) in WALKERS or called(above) == "join" and isinstance(above.func.value, ast.Constant)


def called(call):
    return getattr(call.func, "id", None) or getattr(call.func, "attr", None)


def bound_in_defs(sheet):
    tops = set(sheet.tree.body)
    names = [node.arg for node in sheet.all(ast.arg)]
    names += [node.id for node in sheet.all(ast.Name) if isinstance(node.ctx, ast.Store)
              and sheet.above[node] not in tops]
    return names + [node.name for node in sheet.all(ast.ExceptHandler) if node.name]


def faults_of_names(sheet):
    brought = [name for module, name in sheet.imports]
    taken = [name for name in bound_in_defs(sheet) if name in sheet.classes + brought or hasattr(builtins, name)]
    twice = [name for name in set(sheet.tops + brought) if (sheet.tops + brought).count(name) > 1]
    twice += [node.name for node in sheet.all(ast.ClassDef)
              if len({part.name for part in node.body if isinstance(part, ast.FunctionDef)})
              != len([part for part in node.body if isinstance(part, ast.FunctionDef)])]
    inner = [node.name for node in sheet.all(ast.ClassDef) if sheet.above[node] is not sheet.tree]
    return [f"L15 {name}" for name in taken + inner] + [f"L15 or L18 twice {name}" for name in twice]


def faults_of_calls(sheet):
    faults = []
    for call in sheet.all(ast.Call):
        name = called(call)
        if isinstance(call.func, ast.Name) and hasattr(builtins, name):
            told = [word.arg for word in call.keywords if word.arg not in KEYWORDS.get(name, [])]
            faults += [f"L22 {name} {word}" for word in told]
        if name in METHODS and isinstance(call.func, ast.Attribute) and call.keywords:
            faults.append(f"L22 {name}")
        if (name in WALKED and isinstance(call.func, ast.Name) or name in WALKED_METHODS) and not sheet.is_walked(call):
            faults.append(f"L23 {name}")
        if name in ("set", "frozenset") and not is_set_well(sheet, call):
            faults.append("L24")
        if name == "isinstance":
            kinds = getattr(call.args[1], "elts", [call.args[1]])
            faults += [f"L22 isinstance {kind.id}" for kind in kinds if hasattr(builtins, kind.id)
                       and kind.id not in CHECKED_KINDS]
    return faults


def is_set_well(sheet, node):
    above = sheet.above[node]
    if isinstance(above, ast.BinOp):
        return is_set_well(sheet, above)
    if isinstance(above, ast.Compare):
        return True
    return isinstance(above, ast.Call) and called(above) in ("sorted", "len") and not above.keywords


def faults_of_plain_names(sheet):
    faults = []
    for node in sheet.all(ast.Name):
        if isinstance(node.ctx, ast.Load) and hasattr(builtins, node.id):
            by = sheet.above[node]
            stands = isinstance(by, (ast.ExceptHandler, ast.ClassDef, ast.Raise, ast.Call, ast.Tuple))
            if not (sheet.is_called(node) or sheet.is_key(node) or stands):
                faults.append(f"L22 {node.id}")
    for node in sheet.all(ast.BinOp):
        if isinstance(node.op, ast.Pow) and not isinstance(node.right, ast.Constant):
            faults.append("L27")
    return faults


def faults_of_forms(sheet):
    """L13: no two lambdas with the same parameters on one line; no written set of three or more numbers."""
    told = [(node.lineno, ast.dump(node.args)) for node in sheet.all(ast.Lambda)]
    faults = [f"L13 line {line}" for line, parameters in set(told) if told.count((line, parameters)) > 1]
    return faults + ["L13 set" for node in sheet.all(ast.Set) if len(node.elts) > 2]


def faults_of_tops(sheet):
    """L3 and L15: what stands at a file's top is plain, and no list or dict lies within a list or a dict there."""
    faults = []
    for node in sheet.tree.body:
        if isinstance(node, ast.Assign):
            inner = [part for part in ast.walk(node.value) if isinstance(part, (ast.List, ast.Dict))]
            faults += ["L15 within"] if any(part is not node.value for part in inner) else []
            faults += ["L3"] if any(isinstance(part, (ast.Call, ast.Lambda)) for part in ast.walk(node.value)) else []
        elif not isinstance(node, (ast.FunctionDef, ast.ClassDef, ast.ImportFrom)):
            text = isinstance(node, ast.Expr) and isinstance(node.value, ast.Constant)
            faults += [] if text and node is sheet.tree.body[0] else ["L3"]
    return faults


def is_changing(call):
    return called(call) in ("append", "clear", "extend", "insert", "pop", "remove", "reverse", "setdefault", "update")


def faults_of_kept(sheet):
    """L15: a list or dict of a file's top is only read; L23: what a loop walks isn't changed in it."""
    kept = [node.targets[0].id for node in sheet.tree.body if isinstance(node, ast.Assign)
            and isinstance(node.value, (ast.List, ast.Dict))]
    faults = []
    for call in sheet.all(ast.Call):
        if isinstance(call.func, ast.Attribute) and is_changing(call) and getattr(call.func.value, "id", "") in kept:
            faults.append("L15 changed")
        faults += ["L15 handed on" for part in call.args if getattr(part, "id", "") in kept
                   and called(call) not in ("list", "dict", "len", "sorted", "tuple")]
    for loop in sheet.all(ast.For):
        walked = {ast.dump(node) for node in ast.walk(loop.iter) if isinstance(node, (ast.Name, ast.Attribute))}
        for call in [node for part in loop.body for node in ast.walk(part) if isinstance(node, ast.Call)]:
            if isinstance(call.func, ast.Attribute) and is_changing(call):
                faults += ["L23 changed"] if ast.dump(call.func.value) in walked else []
    return faults


def faults_between(sheets):
    """What is seen only where all files lie side by side."""
    methods = {name for sheet in sheets for name in sheet.methods if name != "__init__"}
    values = {name for sheet in sheets for name in sheet.values}
    faults = [f"L18 {name}" for name in methods & values]
    faults += [f"L26 {name}" for name in methods & PYTHONS_OWN if name not in METHODS + ["add", "discard"]]
    faults += [f"L26 {name}" for name in values & (PYTHONS_OWN | {"args"}) if name not in VALUES]
    for sheet in sheets:
        for node in sheet.all(ast.Attribute):
            known = node.attr in methods | values | set(METHODS) | {"__init__"}
            if sheet.is_called(node) and not known:
                faults.append(f"L25 {sheet.name} {node.attr}")
            if node.attr in methods and not sheet.is_called(node) and not sheet.is_key(node):
                faults.append(f"L25 {sheet.name} {node.attr} is handed on")
    return faults + faults_of_imports(sheets)


def faults_of_imports(sheets):
    by_name = {f"clonewood.{sheet.name}": sheet for sheet in sheets}
    faults = []
    for sheet in sheets:
        faults += [f"L16 {module} {name}" for module, name in sheet.imports
                   if module not in by_name or name not in by_name[module].tops]
        seen = []
        waiting = [module for module, name in sheet.imports]
        while waiting:
            module = waiting.pop()
            if module not in seen and module in by_name:
                seen.append(module)
                waiting += [further for further, name in by_name[module].imports]
        faults += [f"L16 round {sheet.name}"] if f"clonewood.{sheet.name}" in seen else []
    return faults


def faults_of(texts):
    sheets = [Sheet(name, text) for name, text in texts.items()]
    faults = faults_between(sheets)
    for sheet in sheets:
        found = faults_of_names(sheet) + faults_of_calls(sheet) + faults_of_plain_names(sheet)
        found += faults_of_forms(sheet) + faults_of_tops(sheet) + faults_of_kept(sheet)
        faults += [f"{sheet.name}: {fault}" for fault in found]
    return faults


class TheRules(unittest.TestCase):
    def test_the_package_keeps_to_them(self):
        texts = {path.stem: path.read_text(encoding="utf-8") for path in sorted(PACKAGE.glob("*.py"))}
        self.assertEqual(faults_of(texts), [])

    def test_code_outside_the_rules_is_seen(self):
        for text in (
            "def f(list):\n    return 1\n", "def f(a):\n    id = a\n    return id\n", "A = 1\nA = 2\n",
            "class A:\n    pass\ndef f(A):\n    return 1\n", "class A:\n    def f(self):\n        self.f = 1\n",
            "class A:\n    def f(self):\n        pass\n    def f(self):\n        pass\n",
            "class A:\n    def sort(self):\n        pass\n", "class A:\n    def f(self):\n        self.items = 1\n",
            "def f(a):\n    return a.sort()\n", "class A:\n    def f(self):\n        return self.f\n",
            "def f(a):\n    b = zip(a, a)\n    return b\n", "def f(a):\n    return reversed(range(a))\n",
            "def f(a):\n    b = a.items()\n    return b\n", "def f(a):\n    b = set(a)\n    return b\n",
            "def f(a):\n    for b in set(a):\n        pass\n", "def f(a):\n    return sorted(set(a), reverse=True)\n",
            "def f(a):\n    return isinstance(a, set)\n", "def f(a):\n    return int(a, base=2)\n",
            "def f(a):\n    b = len\n    return b(a)\n", "def f(a):\n    return 2 ** a\n",
            "def f(a):\n    return g(lambda b: a, lambda b: b)\n", "def f(a):\n    b = {1, 2, 3}\n    return a in b\n",
            "A = [[1], [2]]\n", "A = {1: [2]}\n", "A = len('a')\n", "if 1:\n    A = 1\n",
            "A = [1]\ndef f():\n    A.append(2)\n", "A = {1: 2}\ndef f(g):\n    return g(A)\n",
            "def f(a):\n    for b in a:\n        a.append(b)\n", "def f(a):\n    for b in enumerate(a):\n        a.pop()\n",
            "from clonewood.other import A\n", "from clonewood.one import f\ndef f(a):\n    return a\n",
        ):
            with self.subTest(text):
                self.assertNotEqual(faults_of({"one": text}), [])

    def test_files_that_draw_from_one_another_are_seen(self):
        one = "from clonewood.other import g\ndef f():\n    return g()\n"
        other = "from clonewood.one import f\ndef g():\n    return f()\n"
        self.assertNotEqual(faults_of({"one": one, "other": other}), [])


if __name__ == "__main__":
    unittest.main()
