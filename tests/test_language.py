"""The package keeps to ../shared/LANGUAGE.md, as far as a look at its files can tell.

Not every rule is looked at here: what is not must still be read by eye.
"""

import ast
import re
import unittest
from pathlib import Path

PACKAGE = Path(__file__).resolve().parent.parent / "wipedtalk"

LIBRARY = ("heapq", "math", "itertools", "collections")
BUILTINS = set(
    "len range enumerate zip min max sum abs sorted reversed int str bool bytes list tuple dict set frozenset "
    "isinstance ord repr any all divmod pow map iter next getattr hasattr setattr super type Exception ValueError "
    "TypeError KeyError IndexError LookupError ZeroDivisionError ArithmeticError OverflowError RuntimeError "
    "NotImplementedError AttributeError StopIteration NotImplemented property staticmethod classmethod".split()
)
METHODS = set(
    "append clear copy count endswith extend find get index insert isalnum isalpha isdigit islower isspace isupper "
    "items join keys ljust lower lstrip partition pop remove replace reverse rfind rjust rpartition rsplit rstrip "
    "setdefault split splitlines startswith strip update upper values zfill bit_length add discard sort".split()
)
DUNDERS = {"__init__", "__eq__", "__repr__", "__str__", "__len__", "__enter__", "__exit__", "__call__", "__iter__"}
NO_ATTRIBUTES = set(
    "items keys values pop update append clear extend insert remove reverse setdefault sort args encode decode hex "
    "fromhex format format_map mro elements open input law version_info with_traceback add_note "
    "is_integer to_bytes from_bytes conjugate bit_count as_integer_ratio".split()
)
NO_NAMES = set(
    "mro elements open input law version_info with_traceback add_note attrgetter breakpoint builtins compile "
    "copyright credits delattr dir eval exec exit gc getattr globals hasattr help id importlib license locals "
    "methodcaller os quit setattr super type vars sys hash round filter format print object chr slice callable "
    "complex ascii oct memoryview aiter anext bin hex issubclass float".split()
) | BUILTINS
NO_WORDS = re.compile(
    r"\b(typing|typing_extensions|enum|Enum|IntEnum|StrEnum|Flag|IntFlag|Generic|Protocol|ABC|ABCMeta|namedtuple|"
    r"NamedTuple|TypedDict|TYPE_CHECKING|abstractmethod)\b|dataclass|overload|contextmanager|_wall"
)
NO_NODES = (
    ast.AsyncFunctionDef, ast.AsyncFor, ast.AsyncWith, ast.Await, ast.Global, ast.Import, ast.Try, ast.NamedExpr,
)
NO_SIGNS = (ast.Div, ast.MatMult, ast.Mod)


def module_level(tree):
    """What stands at module level and may not."""
    for node in tree.body:
        told = isinstance(node, ast.Expr) and isinstance(node.value, ast.Constant) and isinstance(node.value.value, str)
        plain = isinstance(node, ast.Assign) and len(node.targets) == 1 and isinstance(node.targets[0], ast.Name)
        if plain:
            for part in ast.walk(node.value):
                if isinstance(part, (ast.Call, ast.Lambda, ast.Set, ast.ListComp, ast.DictComp, ast.GeneratorExp)):
                    yield part.lineno, "L3"
        if not told and not plain and not isinstance(node, (ast.ImportFrom, ast.FunctionDef, ast.ClassDef)):
            yield node.lineno, "L3"


def imports(tree):
    """Imports that may not stand where they stand, or as they are."""
    ahead = True
    for node in tree.body:
        if isinstance(node, ast.ImportFrom):
            if not ahead:
                yield node.lineno, "L2 place"
        elif not (isinstance(node, ast.Expr) and isinstance(node.value, ast.Constant)):
            ahead = False
    for node in ast.walk(tree):
        if isinstance(node, ast.ImportFrom):
            own = node.module is not None and node.module.startswith("wipedtalk.")
            if node.level or not (own or node.module in LIBRARY):
                yield node.lineno, "L2 module"
            if any(name.name == "*" or name.asname for name in node.names):
                yield node.lineno, "L2 names"
            if node not in tree.body:
                yield node.lineno, "L2 within"


def bound_names(tree):
    """Each name that something is called, with its line."""
    for node in ast.walk(tree):
        if isinstance(node, (ast.FunctionDef, ast.ClassDef)):
            yield node.lineno, node.name
        elif isinstance(node, ast.arg):
            yield node.lineno, node.arg
        elif isinstance(node, ast.Name) and isinstance(node.ctx, ast.Store):
            yield node.lineno, node.id
        elif isinstance(node, ast.ExceptHandler) and node.name:
            yield node.lineno, node.name


def names(tree):
    """Names that may not be given."""
    methods = {node for kind in ast.walk(tree) if isinstance(kind, ast.ClassDef) for node in kind.body}
    method_names = {node.name for node in methods if isinstance(node, ast.FunctionDef)}
    imported = {name.name for node in tree.body if isinstance(node, ast.ImportFrom) for name in node.names}
    kinds = {node.name for node in tree.body if isinstance(node, ast.ClassDef)}
    top = [node.name for node in tree.body if isinstance(node, (ast.FunctionDef, ast.ClassDef))]
    top += [node.targets[0].id for node in tree.body if isinstance(node, ast.Assign)]
    if len(set(top) | imported) != len(top) + len(imported):
        yield 0, "L15 twice"
    for line, name in bound_names(tree):
        if name in NO_NAMES or (name in imported | kinds and name not in top):
            yield line, "L15 " + name
        if name.startswith("__") and not (name in DUNDERS and name in method_names):
            yield line, "L8 " + name
        if not re.fullmatch(r"_|_?[A-Za-z][A-Za-z0-9_]*|__[a-z]+__", name):
            yield line, "L12 " + name


def calls(tree, own_methods):
    """Calls that may not stand."""
    own = {name for _, name in bound_names(tree)}
    own |= {name.name for node in tree.body if isinstance(node, ast.ImportFrom) for name in node.names}
    for node in ast.walk(tree):
        if isinstance(node, ast.Name) and isinstance(node.ctx, ast.Load) and node.id not in own | BUILTINS:
            yield node.lineno, "L8 " + node.id
        if not isinstance(node, ast.Call):
            continue
        if isinstance(node.func, ast.Attribute) and node.func.attr not in METHODS | own_methods:
            yield node.lineno, "L25 " + node.func.attr
        if isinstance(node.func, ast.Name) and node.func.id in ("any", "all", "min", "max", "sum", "sorted"):
            # The classes of the package have an `__eq__`.
            if any(isinstance(part, ast.GeneratorExp) for part in node.args):
                yield node.lineno, "L7 generator expression"


def classes(tree):
    """Classes and functions that are not as they should be."""
    for node in ast.walk(tree):
        if isinstance(node, ast.FunctionDef):
            if node.end_lineno - node.lineno >= 40:
                yield node.lineno, "L10"
            for decorator in node.decorator_list:
                if not (isinstance(decorator, ast.Name) and decorator.id == "property"):
                    yield node.lineno, "L4"
            if node.name == "__eq__":
                first = ast.unparse(node.body[0])
                if not first.startswith(("return isinstance(other, ", "if not isinstance(other, ")):
                    yield node.lineno, "L28"
        if isinstance(node, ast.ClassDef) and node.decorator_list:
            yield node.lineno, "L5"
        if isinstance(node, ast.Attribute) and isinstance(node.ctx, ast.Store) and node.attr in NO_ATTRIBUTES:
            yield node.lineno, "L26 " + node.attr
        if isinstance(node, NO_NODES):
            yield node.lineno, "L6, L7 " + type(node).__name__
        if isinstance(node, (ast.BinOp, ast.AugAssign)) and isinstance(node.op, NO_SIGNS):
            yield node.lineno, "L7 " + type(node.op).__name__
        if isinstance(node, ast.Compare):
            for sign, other in zip(node.ops, node.comparators):
                if isinstance(sign, (ast.Is, ast.IsNot)) and not isinstance(other, ast.Constant):
                    yield node.lineno, "L20"
        if isinstance(node, ast.Constant) and isinstance(node.value, (float, complex)):
            yield node.lineno, "L7"


def properties(trees):
    """Assignments to attributes that have the name of a property."""
    kinds = [node for tree in trees for node in ast.walk(tree) if isinstance(node, ast.ClassDef)]
    told = {part.name for kind in kinds for part in kind.body if getattr(part, "decorator_list", [])}
    for tree in trees:
        for node in ast.walk(tree):
            if isinstance(node, ast.Attribute) and isinstance(node.ctx, ast.Store) and node.attr in told:
                yield node.lineno, "L5 " + node.attr


def strings(tree, text):
    """Lines and strings that may not stand."""
    for number, line in enumerate(text.split("\n"), start=1):
        if len(line) > 120:
            yield number, "L10"
        if re.search(r"[^ -~]", line):
            yield number, "L14"
        if NO_WORDS.search(line):
            yield number, "L17"
    if text.count("\n") > 399:
        yield 400, "L10"
    docstrings = {id(node.value) for node in ast.walk(tree) if isinstance(node, ast.Expr)}
    for node in ast.walk(tree):
        if isinstance(node, ast.Constant) and isinstance(node.value, str) and id(node) not in docstrings:
            if "%" in node.value or re.search(r"[^ -~\n\t]", node.value):
                yield node.lineno, "L27"


def faults(text, own_methods=frozenset()):
    """All that is found in a file, as pairs of a line and a rule."""
    tree = ast.parse(text)
    found = [*module_level(tree), *imports(tree), *names(tree), *calls(tree, own_methods), *classes(tree)]
    return found + [*properties([tree]), *strings(tree, text)]


def files():
    return sorted(path for path in PACKAGE.rglob("*") if "__pycache__" not in path.parts)


class Language(unittest.TestCase):
    def test_the_folder_holds_plain_files_alone(self):
        for path in files():
            self.assertTrue(path.is_file() and re.fullmatch(r"[a-z0-9_]+\.py", path.name), path)
            self.assertNotIn(path.stem, BUILTINS | NO_NAMES | {"test", "tests", "testing", "site", "conftest", *LIBRARY})

    def test_no_rule_is_broken(self):
        trees = [ast.parse(path.read_text()) for path in files()]
        own_methods = {
            part.name
            for tree in trees for kind in ast.walk(tree) if isinstance(kind, ast.ClassDef)
            for part in kind.body if isinstance(part, ast.FunctionDef)
        }
        for path in files():
            self.assertEqual(faults(path.read_text(), own_methods), [], path)
        self.assertEqual(list(properties(trees)), [])

    def test_no_two_files_import_from_each_other(self):
        needs = {}
        for path in files():
            tree = ast.parse(path.read_text())
            found = [node for node in tree.body if isinstance(node, ast.ImportFrom)]
            needs[path.stem] = {node.module.split(".")[1] for node in found if node.module.startswith("wipedtalk.")}
            for node in found:
                if node.module.startswith("wipedtalk."):
                    there = ast.parse((PACKAGE / (node.module.split(".")[1] + ".py")).read_text())
                    defined = [name for _, name in bound_names(there)]
                    self.assertTrue(all(name.name in defined for name in node.names), path)
        while needs:
            ready = [name for name, others in needs.items() if not others & set(needs)]
            self.assertTrue(ready, needs)
            for name in ready:
                del needs[name]

    def test_broken_rules_are_found(self):
        for text in (
            "import os\n", "from os import path\n", "from . import runs\n", "from wipedtalk.runs import *\n",
            "LIMIT = 1\nfrom wipedtalk.runs import walk\n", "LIMIT = len('abc')\n", "for k in (1, 2):\n    pass\n",
            "def f(x):\n    return x / 2\n", "def f(x):\n    return x * 0.5\n", "def f(x):\n    return x % 2\n",
            "def f(list):\n    return list\n", "def f(x):\n    hash = x\n", "def f(x):\n    return print(x)\n",
            "def f(x):\n    return x.index_of(1)\n", "def f(xs):\n    return all(x for x in xs)\n",
            "def f(x, y):\n    return x is y\n", "def f(x):\n    return '%'\n", "# " + "x" * 120 + "\n",
            "# \u00e4\n", "def f(x):\n" + "    x = x + 1\n" * 40, "class A:\n    def __hash__(self):\n        return 1\n",
            "class A:\n    def __eq__(self, other):\n        return True\n",
            "class A:\n    def __init__(self):\n        self.items = 1\n",
            "class A:\n    @property\n    def n(self):\n        return 1\n\n    def f(self):\n        self.n = 2\n",
            "@staticmethod\ndef f(x):\n    return x\n", "def f(x):\n    return x\n\n\ndef f(x):\n    return x\n",
        ):
            self.assertNotEqual(faults(text), [], text)


if __name__ == "__main__":
    unittest.main()
