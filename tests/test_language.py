"""Holds the package against ../shared/LANGUAGE.md, as far as a look at the syntax can tell.

Where a rule allows something only under conditions that are hard to see (sets, generators, decorators, `global`,
`try` around Python's own errors), the test is narrower than the rule: the package does without it.
"""

import ast
import builtins
import pathlib
import re
import unittest

PACKAGE = pathlib.Path(__file__).resolve().parent.parent / "metricparts"
LIBRARY = {"math": {"gcd", "lcm", "isqrt", "comb", "perm", "factorial"}}
BUILTINS = set(
    "len range enumerate zip min max sum abs sorted reversed int str bool bytes list tuple dict isinstance ord repr"
    " any all divmod Exception ValueError TypeError KeyError IndexError LookupError ZeroDivisionError"
    " ArithmeticError OverflowError RuntimeError NotImplementedError NotImplemented".split()
)
METHODS = set(
    "append clear copy count endswith extend find get index insert isalnum isalpha isdigit islower isspace isupper"
    " items join keys ljust lower lstrip partition pop remove replace reverse rfind rjust rpartition rsplit rstrip"
    " setdefault split splitlines startswith strip update upper values zfill bit_length title capitalize swapcase"
    " casefold center expandtabs removeprefix removesuffix rindex isascii isdecimal isnumeric istitle isidentifier"
    " isprintable".split()
)
SPECIAL = set(
    "__init__ __eq__ __repr__ __str__ __len__ __iter__ __call__ __lt__ __le__ __gt__ __ge__ __ne__ __add__ __sub__"
    " __mul__ __neg__ __pos__ __abs__ __bool__ __contains__".split()
)
BARRED_NAMES = set(
    "register mro elements open input law version_info with_traceback add_note attrgetter breakpoint builtins"
    " compile copyright credits delattr dir eval exec exit gc getattr globals hasattr help id importlib license"
    " locals methodcaller os quit setattr super type vars sys".split()
)
BARRED_WORDS = set(
    "type typing typing_extensions enum Enum IntEnum StrEnum Flag IntFlag Generic Protocol ABC ABCMeta namedtuple"
    " NamedTuple TypedDict TYPE_CHECKING abstractmethod".split()
)
NODES = (
    ast.Module, ast.Expr, ast.Assign, ast.AugAssign, ast.If, ast.While, ast.For, ast.Return, ast.Break, ast.Continue,
    ast.Pass, ast.Raise, ast.Try, ast.ExceptHandler, ast.FunctionDef, ast.ClassDef, ast.ImportFrom, ast.alias,
    ast.arguments, ast.arg, ast.Lambda, ast.Constant, ast.Name, ast.Attribute, ast.Subscript, ast.Slice, ast.List,
    ast.Tuple, ast.Dict, ast.ListComp, ast.DictComp, ast.comprehension, ast.Call, ast.keyword, ast.BinOp, ast.BoolOp,
    ast.UnaryOp, ast.Compare, ast.IfExp, ast.JoinedStr, ast.FormattedValue, ast.expr_context, ast.operator, ast.unaryop,
    ast.boolop, ast.cmpop,
)
FUNCTION = (ast.FunctionDef, ast.Lambda)


def file_complaints(source):
    """L10, L14, L17: sizes, characters and words."""
    found = []
    lines = source.split("\n")
    if len(lines) > 400 or any(len(line) > 120 for line in lines):
        found.append("L10 size")
    if any(not (" " <= sign <= "~" or sign == "\n") for sign in source):
        found.append("L14 character")
    tree = ast.parse(source)
    docs = [doc_of(node) for node in ast.walk(tree)]
    texts = [node.value for node in ast.walk(tree) if isinstance(node, ast.Constant) and isinstance(node.value, str)
             and all(node is not doc for doc in docs)]
    words = [word for text in texts for word in re.findall(r"\w+", text)] + names_of(tree)
    if any(word in BARRED_WORDS or re.search("dataclass|overload|contextmanager", word) for word in words):
        found.append("L17 word")
    if any("%" in text for text in texts + [doc.value for doc in docs if doc is not None]):
        found.append("L27 sign")
    return found


def doc_of(node):
    """Return the docstring's node, or None."""
    body = getattr(node, "body", None)
    if isinstance(node, (ast.Module, ast.ClassDef, ast.FunctionDef)) and body and isinstance(body[0], ast.Expr):
        if isinstance(body[0].value, ast.Constant):
            return body[0].value
    return None


def names_of(tree):
    """Return all names, attributes, arguments and keywords."""
    found = []
    for node in ast.walk(tree):
        for field in ("id", "attr", "arg", "name"):
            word = getattr(node, field, None)
            if isinstance(word, str) and not isinstance(node, ast.alias):
                found.append(word)
    return found


def import_complaints(tree, defined):
    """L2 and L16: what is imported, from where, and how it is used."""
    found = []
    body = [node for node in tree.body if not (isinstance(node, ast.Expr) and node is tree.body[0])]
    library = []
    for at, node in enumerate(body):
        if not isinstance(node, ast.ImportFrom):
            continue
        late = any(not isinstance(other, ast.ImportFrom) for other in body[:at])
        if late or node.level or any(alias.asname for alias in node.names):
            found.append("L2 form of an import")
        for alias in node.names:
            if node.module in LIBRARY and alias.name in LIBRARY[node.module]:
                library.append(alias.name)
            elif alias.name not in defined.get(node.module, ()):
                found.append(f"L2, L16 import of {alias.name}")
    called = [node.func for node in ast.walk(tree) if isinstance(node, ast.Call) and not node.keywords]
    for node in ast.walk(tree):
        if isinstance(node, ast.Name) and node.id in library and all(node is not func for func in called):
            found.append(f"L2 use of {node.id}")
    return found


def module_complaints(tree):
    """L3 and L15: the statements at module level and in classes, and one binding for each name."""
    found = []
    bound = []
    for at, node in enumerate(tree.body):
        if isinstance(node, (ast.FunctionDef, ast.ClassDef)):
            bound.append(node.name)
        elif isinstance(node, ast.ImportFrom):
            bound += [alias.name for alias in node.names]
        elif isinstance(node, ast.Assign) and len(node.targets) == 1 and isinstance(node.targets[0], ast.Name):
            bound.append(node.targets[0].id)
            computed = (ast.Call, ast.ListComp, ast.DictComp, ast.Lambda)
            if any(isinstance(part, computed) for part in ast.walk(node.value)):
                found.append("L3 value")
        elif node is not tree.body[0] or doc_of(tree) is None:
            found.append("L3 statement")
        if isinstance(node, ast.ClassDef):
            found += class_complaints(node)
    if len(bound) != len(set(bound)):
        found.append("L15 bound twice")
    locals_ = [node.arg for node in ast.walk(tree) if isinstance(node, ast.arg)]
    locals_ += [node.id for node in ast.walk(tree) if isinstance(node, ast.Name) and isinstance(node.ctx, ast.Store)
                and node.id not in [t.id for top in tree.body if isinstance(top, ast.Assign) for t in top.targets]]
    taken = [node.name for node in tree.body if isinstance(node, ast.ClassDef)]
    taken += [alias.name for node in tree.body if isinstance(node, ast.ImportFrom) for alias in node.names]
    if set(locals_) & set(taken):
        found.append("L15 name of a class or an import")
    return found


def class_complaints(node):
    """L5: the body and the bases of a class."""
    found = []
    for part in node.body:
        if not isinstance(part, ast.FunctionDef) and getattr(part, "value", part) is not doc_of(node):
            found.append("L5 body")
        if isinstance(part, ast.FunctionDef) and part.name.startswith("__") and part.name not in SPECIAL:
            found.append("L5 method")
        if isinstance(part, ast.FunctionDef) and part.name == "__iter__":
            if not re.fullmatch(r"def __iter__\(self\):\n    return iter\(self[.]\w+\)", ast.unparse(part)):
                found.append("L5 iteration")
    methods = [part.name for part in node.body if isinstance(part, ast.FunctionDef)]
    if len(methods) != len(set(methods)) or node.keywords or node.decorator_list:
        found.append("L5, L18 class")
    return found


def function_complaints(tree):
    """L4, L10, L21, L28: sizes, decorators, default values, annotations."""
    found = []
    for node in ast.walk(tree):
        if not isinstance(node, FUNCTION):
            continue
        every = node.args.args + node.args.kwonlyargs + node.args.posonlyargs
        if any(arg.annotation for arg in every) or getattr(node, "returns", None):
            found.append("L21 annotation")
        for default in node.args.defaults + node.args.kw_defaults:
            parts = ast.walk(default or ast.Pass())
            if any(isinstance(part, (ast.Name, ast.Call, ast.List, ast.Dict)) for part in parts):
                found.append("L4 default")
        if isinstance(node, ast.FunctionDef):
            if node.decorator_list:
                found.append("L4 decorator")
            if node.end_lineno - node.lineno >= 40:
                found.append("L10 function")
            returns = [part for part in ast.walk(node) if isinstance(part, ast.Return)]
            if node.name == "__init__" and returns:
                found.append("L28 __init__")
            if node.name in ("__str__", "__repr__", "__len__") and not isinstance(node.body[-1], ast.Return):
                found.append("L28 return")
            if node.name == "__len__" and not all(ast.unparse(part).startswith("return len(") for part in returns):
                found.append("L28 __len__")
    return found


def node_complaints(tree):
    """L6, L7, L19, L20, L22, L25, L27: statements and expressions one by one."""
    found = []
    for node in ast.walk(tree):
        if not isinstance(node, NODES) or isinstance(node, (ast.Div, ast.MatMult)):
            found.append(f"L6, L7, L24 {type(node).__name__}")
        if isinstance(node, ast.Constant) and isinstance(node.value, (float, complex)):
            found.append("L7 float")
        if isinstance(node, ast.BinOp) and isinstance(node.op, ast.Pow):
            if not isinstance(node.right, ast.Constant) or not 0 <= node.right.value <= 64:
                found.append("L27 exponent")
        if isinstance(node, ast.Raise) and node.exc is not None:
            if not isinstance(node.exc, ast.Call) or not isinstance(node.exc.func, ast.Name):
                found.append("L19 raise")
        if isinstance(node, ast.ExceptHandler) and (node.type is None or set(names_of(node.type)) & BUILTINS):
            found.append("L19 except")
        if isinstance(node, ast.Compare):
            for op, right in zip(node.ops, node.comparators):
                if isinstance(op, (ast.Is, ast.IsNot)) and not isinstance(right, ast.Constant):
                    found.append("L20 is")
        if isinstance(node, ast.Call) and isinstance(node.func, ast.Name) and node.func.id in BUILTINS:
            if {word.arg for word in node.keywords} - {"key", "reverse", "default", "start", "strict"}:
                found.append("L22 keyword")
    return found


def name_complaints(tree, own_methods):
    """L8, L12, L17, L25, L26: names, builtins and methods."""
    found = []
    for word in names_of(tree):
        plain = re.fullmatch("_?[A-Za-z][A-Za-z0-9_]*|_|__[a-z]+__", word)
        if not plain or word in BARRED_NAMES or word.startswith("_wall"):
            found.append(f"L12, L17 {word}")
    bound = {node.id for node in ast.walk(tree) if isinstance(node, ast.Name) and isinstance(node.ctx, ast.Store)}
    bound |= {node.arg for node in ast.walk(tree) if isinstance(node, ast.arg)}
    bound |= {node.name for node in ast.walk(tree) if isinstance(node, (ast.FunctionDef, ast.ClassDef, ast.alias))}
    bound |= {node.name for node in ast.walk(tree) if isinstance(node, ast.ExceptHandler) and node.name}
    if bound & set(vars(builtins)):
        found.append("L15 name of a builtin")
    iterated = [part for node in ast.walk(tree) if isinstance(node, ast.FunctionDef) and node.name == "__iter__"
                for part in ast.walk(node)]
    for node in ast.walk(tree):
        if isinstance(node, ast.Name) and isinstance(node.ctx, ast.Load):
            # The function iter stands in a method __iter__ alone, whose form is looked at with its class.
            known = node.id == "iter" and any(node is part for part in iterated)
            if node.id == "_" or node.id not in bound | BUILTINS and not known:
                found.append(f"L8 {node.id}")
        if isinstance(node, ast.Call) and isinstance(node.func, ast.Attribute):
            word = node.func.attr
            if word not in METHODS | own_methods and not (word == "__init__" and isinstance(node.func.value, ast.Name)):
                found.append(f"L25 {word}")
    return found


def definitions(tree):
    """Return the names that a file defines, and those of the methods of its classes."""
    names = {node.name for node in tree.body if isinstance(node, (ast.FunctionDef, ast.ClassDef))}
    names |= {target.id for node in tree.body if isinstance(node, ast.Assign) for target in node.targets}
    methods = {part.name for node in tree.body if isinstance(node, ast.ClassDef) for part in node.body
               if isinstance(part, ast.FunctionDef)}
    return names, methods


def complaints(sources):
    """Return what is wrong with a dict of sources by the names of their modules."""
    trees = {name: ast.parse(source) for name, source in sources.items()}
    defined = {name: definitions(tree)[0] for name, tree in trees.items()}
    methods = set().union(*[definitions(tree)[1] for tree in trees.values()])
    found = []
    for name, tree in trees.items():
        some = file_complaints(sources[name]) + import_complaints(tree, defined) + module_complaints(tree)
        some += function_complaints(tree) + node_complaints(tree) + name_complaints(tree, methods)
        found += [f"{name}: {one}" for one in some]
    return found + [f"L16 circle of imports at {name}" for name in trees if name in reached(trees, name)]


def reached(trees, name):
    """Return the modules that a module imports, directly or through others."""
    found = set()
    left = [name]
    while left:
        for node in trees[left.pop()].body:
            if isinstance(node, ast.ImportFrom) and node.module in trees and node.module not in found:
                found.add(node.module)
                left.append(node.module)
    return found


BAD = [
    "import math\n", "from math import sqrt\n", "from os import path\n", "from metricparts.b import *\n",
    "from . import b\n", "from math import gcd as common\n",
    "from math import gcd\n\n\ndef f(rows):\n    return max(rows, key=gcd)\n", "x = 1\nfrom math import gcd\n",
    "x = len('a')\n", "x = 1\nx = 2\n", "if 1:\n    x = 2\n", "x = y = 1\n", "print('a')\n",
    "def f():\n    print('a')\n", "def f():\n    return 1.5\n", "def f(a):\n    return a / 2\n",
    "def f(a, b):\n    return a ** b\n", "def f(a):\n    return a ** 65\n", "def f(a):\n    return {1, a}\n",
    "def f(a):\n    return sum(x for x in a)\n", "def f(a):\n    yield a\n", "def f(a: int):\n    return a\n",
    "def f(a=[]):\n    return a\n", "x = 1\n\n\ndef f(a=x):\n    return a\n", "def f(a):\n    raise a\n",
    "def f():\n    raise ValueError\n",
    "def f(a):\n    try:\n        return a()\n    except TypeError:\n        return 1\n",
    "def f(a, b):\n    return a is b\n", "def f(a):\n    return a.encode()\n", "def f(a):\n    return a.foo()\n",
    "def f(list):\n    return list\n", "def f(id):\n    return id\n", "def f(a):\n    global x\n    return a\n",
    "def f(a):\n    return type(a)\n", "def f(a):\n    return getattr(a, 'n')\n", "def f(a):\n    return '50%'\n",
    "def f(a):\n    return '\u00e9'\n", "def f(__a):\n    return __a\n", "def f(_):\n    return _\n",
    "def f(a):\n\treturn a\n", "def f(a):\n    return " + "a + " * 60 + "a\n", "def f(a):\n" + "    a = a\n" * 40,
    "x = 0\n" * 2, "@f\ndef g():\n    return 1\n", "class A:\n    def __hash__(self):\n        return 1\n",
    "class A:\n    def __init__(self):\n        return None\n",
    "class A:\n    def f(self):\n        return 1\n\n    def f(self):\n        return 2\n",
    "def f(a):\n    return sorted(a, word=1)\n",
    "class A:\n    def __str__(self):\n        if self:\n            return 'a'\n",
    "class A:\n    pass\n\n\ndef f(A):\n    return A\n", "def f(a):\n    return chr(a)\n",
    "def f(a):\n    return map(int, a)\n", "def f(a):\n    return set(a)\n", "def f(a):\n    return iter(a)\n",
    "class A:\n    def __iter__(self):\n        return iter(self.rows())\n",
    "class A:\n    def __iter__(self):\n        rows = iter(self.rows)\n        return rows\n",
    "class A:\n    def __len__(self):\n        return self.n\n",
]


class Language(unittest.TestCase):
    def sources(self):
        paths = sorted(PACKAGE.glob("*.py"))
        return {"metricparts." + path.stem: path.read_text("utf-8") for path in paths if path.stem != "__init__"}

    def test_files(self):
        for path in PACKAGE.iterdir():
            if path.name != "__pycache__":
                self.assertTrue(path.is_file() and re.fullmatch("[a-z][a-z0-9_]*[.]py|__init__[.]py", path.name), path)

    def test_the_package(self):
        sources = self.sources()
        self.assertGreater(len(sources), 3)
        self.assertEqual(complaints(sources), [])

    def test_the_test_itself_finds_what_is_wrong(self):
        for source in BAD:
            self.assertNotEqual(complaints({"metricparts.a": source, "metricparts.b": "x = 1\n"}), [], source)

    def test_circles_of_imports(self):
        one = "from metricparts.b import g\n\n\ndef f():\n    return g()\n"
        other = "from metricparts.a import f\n\n\ndef g():\n    return f()\n"
        self.assertEqual(len(complaints({"metricparts.a": one, "metricparts.b": other})), 2)
        self.assertEqual(complaints({"metricparts.a": one, "metricparts.b": "def g():\n    return 1\n"}), [])


if __name__ == "__main__":
    unittest.main()
