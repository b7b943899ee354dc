"""The package's files against the rules of LANGUAGE.md, as far as a walk through the code can see them."""

import ast
import pathlib
import re
import unittest

PACKAGE = pathlib.Path(__file__).resolve().parent.parent / "risecount"

STATEMENTS = (
    ast.FunctionDef, ast.ClassDef, ast.Return, ast.Assign, ast.AugAssign, ast.For, ast.While, ast.If,
    ast.Raise, ast.Try, ast.ImportFrom, ast.Expr, ast.Pass, ast.Break, ast.Continue,
)
EXPRESSIONS = (
    ast.BoolOp, ast.BinOp, ast.UnaryOp, ast.Lambda, ast.IfExp, ast.Dict, ast.ListComp, ast.Compare,
    ast.Call, ast.JoinedStr, ast.FormattedValue, ast.Constant, ast.Attribute, ast.Subscript, ast.Name,
    ast.List, ast.Tuple, ast.Slice,
)
CALLED = (
    "len range enumerate zip min max sum abs sorted reversed int str bool list tuple dict set frozenset "
    "isinstance ord repr any all divmod Exception ValueError TypeError KeyError IndexError LookupError "
    "ZeroDivisionError ArithmeticError OverflowError RuntimeError NotImplementedError AttributeError StopIteration"
).split()
METHODS = (
    "append clear copy count endswith extend find get index insert isalnum isalpha isdigit islower isspace "
    "isupper items join keys ljust lower lstrip partition pop remove replace reverse rfind rjust rpartition "
    "rsplit rstrip setdefault split splitlines startswith strip update upper values zfill bit_length"
).split()
KEYWORDS = {
    "sorted": ("key", "reverse"), "min": ("key", "default"), "max": ("key", "default"),
    "sum": ("start",), "enumerate": ("start",), "zip": ("strict",),
}
WALKED = ("zip", "enumerate", "reversed", "range")
WALKERS = ("list", "tuple", "dict", "sorted", "sum", "any", "all", "enumerate", "zip", "min", "max")
WORDS = (
    "type typing typing_extensions enum Enum IntEnum StrEnum Flag IntFlag Generic Protocol ABC ABCMeta "
    "namedtuple NamedTuple TypedDict TYPE_CHECKING abstractmethod"
).split()
UNUSED = (
    "register mro elements open input version_info with_traceback add_note attrgetter breakpoint builtins "
    "compile copyright credits delattr dir eval exec exit gc getattr globals hasattr help id importlib license "
    "locals methodcaller os quit setattr super type vars sys chr print format format_map"
).split()
BUILT_IN = tuple(__builtins__ if isinstance(__builtins__, dict) else dir(__builtins__))


def signs_faults(text):
    found = []
    if any(not (" " <= sign <= "~" or sign == "\n") for sign in text):
        found.append("L14 sign")
    lines = text.split("\n")
    if len(lines) > 401:
        found.append("L10 file")
    if any(len(line) > 120 for line in lines):
        found.append("L10 line")
    words = re.findall(r"[A-Za-z0-9_]+", text)
    found += [f"L17 {word}" for word in words if word in WORDS]
    found += [f"L17 {word}" for word in words if re.search("dataclass|overload|contextmanager", word)]
    return found


def parents_of(tree):
    above = {}
    for node in ast.walk(tree):
        for child in ast.iter_child_nodes(node):
            above[child] = node
    return above


def is_call_of(node, names):
    return isinstance(node, ast.Call) and isinstance(node.func, ast.Name) and node.func.id in names


def walked_on_the_spot(node, above):
    upper = above[node]
    if isinstance(upper, (ast.For, ast.comprehension)):
        return upper.iter is node
    if is_call_of(upper, WALKERS):
        return upper.args[0] is node or is_call_of(upper, ("zip",))
    return isinstance(upper, ast.Call) and isinstance(upper.func, ast.Attribute) and upper.func.attr == "join"


def set_stands_well(node, above):
    upper = above[node]
    while isinstance(upper, ast.BinOp) and isinstance(upper.op, (ast.Sub, ast.BitAnd, ast.BitOr, ast.BitXor)):
        upper = above[upper]
    return isinstance(upper, ast.Compare) or is_call_of(upper, ("sorted", "len")) and not upper.keywords


def methods_in(tree):
    classes = [node for node in tree.body if isinstance(node, ast.ClassDef)]
    return [inner.name for node in classes for inner in node.body if isinstance(inner, ast.FunctionDef)]


def values_in(tree):
    """What is set on an object in its own methods."""
    attributes = [node for node in ast.walk(tree) if isinstance(node, ast.Attribute)]
    return [node.attr for node in attributes if isinstance(node.ctx, ast.Store)]


def package_trees():
    return [ast.parse(path.read_text(encoding="utf-8")) for path in sorted(PACKAGE.glob("*.py"))]


def own_methods():
    return [name for tree in package_trees() for name in methods_in(tree)]


def class_faults(node):
    found = []
    if len(node.bases) > 1 or node.decorator_list or node.keywords:
        found.append(f"L5 {node.name}")
    for inner in node.body:
        if not isinstance(inner, ast.FunctionDef) and not is_written_text(inner):
            found.append(f"L5 {node.name} holds a value")
    names = [inner.name for inner in node.body if isinstance(inner, ast.FunctionDef)]
    found += [f"L18 {name} twice" for name in names if names.count(name) > 1]
    found += [f"L5 {name}" for name in names if name.startswith("_") and name != "__init__"]
    found += [f"L26 {name}" for name in names if not name.startswith("_") and is_pythons_own(name)]
    return found


def is_written_text(node):
    return isinstance(node, ast.Expr) and isinstance(node.value, ast.Constant) and isinstance(node.value.value, str)


def is_pythons_own(name):
    return any(hasattr(kind, name) for kind in (str, int, list, tuple, dict, set, bytes))


def call_faults(node, above, own):
    found = []
    if isinstance(node.func, ast.Name):
        name = node.func.id
        for keyword in node.keywords:
            if name not in own and keyword.arg not in KEYWORDS.get(name, ()):
                found.append(f"L22 keyword {keyword.arg}")
        if name in WALKED and not walked_on_the_spot(node, above):
            found.append(f"L23 {name}")
        if name in ("set", "frozenset") and not set_stands_well(node, above):
            found.append(f"L24 {name}")
    elif isinstance(node.func, ast.Attribute):
        if node.func.attr not in METHODS and node.func.attr not in own_methods():
            found.append(f"L25 {node.func.attr}")
        if node.func.attr in ("items", "keys", "values") and not walked_on_the_spot(node, above):
            found.append(f"L23 {node.func.attr}")
    return found


def def_faults(node):
    found = []
    if node.end_lineno - node.lineno + 1 > 40:
        found.append(f"L10 {node.name}")
    given = node.args
    if given.vararg or given.kwarg or given.kwonlyargs or given.posonlyargs or node.decorator_list:
        found.append(f"L4 {node.name}")
    if node.returns or any(arg.annotation for arg in given.args):
        found.append(f"L21 {node.name}")
    return found


def power_faults(node):
    if isinstance(node.op, ast.Div):
        return ["L7 /"]
    if isinstance(node.op, ast.Pow):
        written = isinstance(node.right, ast.Constant) and node.right.value in range(65)
        return [] if written else ["L27 **"]
    return []


def constant_faults(node):
    if isinstance(node.value, str) and "%" in node.value:
        return ["L27 text"]
    if node.value is None or isinstance(node.value, (int, str)):
        return []
    return ["L7 value"]


def statement_faults(node):
    found = []
    if isinstance(node, ast.Assign) and len(node.targets) != 1:
        found.append("L6 targets")
    if isinstance(node, (ast.For, ast.While)) and node.orelse:
        found.append("L6 else")
    if isinstance(node, ast.Try):
        if node.finalbody:
            found.append("L6 finally")
        for handler in node.handlers:
            if handler.type is None or getattr(handler.type, "id", "") in ("Exception", "TypeError"):
                found.append("L19 except")
    if isinstance(node, ast.Expr) and not isinstance(node.value, ast.Call) and not is_written_text(node):
        found.append("L6 expression")
    return found


def expression_faults(node, above, own):
    if isinstance(node, ast.Call):
        return call_faults(node, above, own)
    if isinstance(node, ast.BinOp):
        return power_faults(node)
    if isinstance(node, ast.Constant):
        return constant_faults(node)
    if isinstance(node, ast.ListComp):
        return ["L7 comprehension"] if len(node.generators) > 1 or len(node.generators[0].ifs) > 1 else []
    if isinstance(node, ast.FormattedValue):
        return [] if isinstance(node.value, ast.Name) and node.format_spec is None else ["L7 f-string"]
    if isinstance(node, ast.Compare) and any(isinstance(op, (ast.Is, ast.IsNot)) for op in node.ops):
        sides = [node.left] + node.comparators
        named = [side for side in sides if isinstance(side, ast.Constant) and side.value in (None, True, False)]
        return [] if named else ["L20 is"]
    return []


def name_faults(node, above, own):
    if isinstance(node, ast.Attribute):
        return [f"L17 {node.attr}"] if node.attr in UNUSED or node.attr.startswith("_") else []
    found = []
    name = node.id if isinstance(node, ast.Name) else node.arg
    bound = isinstance(node, ast.arg) or isinstance(node.ctx, ast.Store)
    if name in UNUSED:
        found.append(f"L17 {name}")
    if not re.fullmatch("[A-Za-z][A-Za-z0-9_]*", name):
        found.append(f"L12 {name}")
    if bound and name in BUILT_IN:
        found.append(f"L15 {name}")
    if not bound and name in BUILT_IN and name not in CALLED:
        found.append(f"L8 {name}")
    if not bound and name in CALLED and not kept_well(node, above):
        found.append(f"L22 {name}")
    return found


def kept_well(node, above):
    upper = above[node]
    if isinstance(upper, ast.Call):
        return upper.func is node or is_call_of(upper, ("isinstance",))
    return isinstance(upper, (ast.ClassDef, ast.ExceptHandler, ast.Tuple, ast.keyword))


def top_faults(tree):
    found = []
    bound = []
    for node in tree.body:
        if isinstance(node, ast.ImportFrom):
            if not (node.module or "").startswith("risecount.") or node.level:
                found.append("L2 import")
            bound += [alias.name for alias in node.names]
            found += ["L2 import" for alias in node.names if alias.name == "*" or alias.asname]
        elif isinstance(node, (ast.FunctionDef, ast.ClassDef)):
            bound.append(node.name)
        elif isinstance(node, ast.Assign):
            bound += [target.id for target in node.targets]
        elif not isinstance(node, ast.Expr):
            found.append("L3 top")
    found += [f"L15 {name} twice" for name in bound if bound.count(name) > 1]
    return found, bound


def inner_faults(tree, bound):
    found = []
    for node in ast.walk(tree):
        if isinstance(node, ast.arg) and node.arg in bound:
            found.append(f"L15 {node.arg}")
        if isinstance(node, ast.FunctionDef):
            stored = [inner.id for inner in ast.walk(node)
                      if isinstance(inner, ast.Name) and isinstance(inner.ctx, ast.Store)]
            found += [f"L15 {name}" for name in stored if name in bound]
        if isinstance(node, ast.ImportFrom) and node not in tree.body:
            found.append("L2 import within")
    return found


def faults(text):
    tree = ast.parse(text)
    above = parents_of(tree)
    found, bound = top_faults(tree)
    found += signs_faults(text) + inner_faults(tree, bound)
    for node in ast.walk(tree):
        if isinstance(node, ast.stmt):
            if not isinstance(node, STATEMENTS):
                found.append(f"L6 {node.__class__.__name__}")
            found += statement_faults(node)
        if isinstance(node, ast.FunctionDef):
            found += def_faults(node)
        if isinstance(node, ast.ClassDef):
            found += class_faults(node)
        if isinstance(node, ast.expr):
            if not isinstance(node, EXPRESSIONS):
                found.append(f"L7 {node.__class__.__name__}")
            found += expression_faults(node, above, bound)
        if isinstance(node, (ast.Name, ast.arg, ast.Attribute)):
            found += name_faults(node, above, bound)
    return found


def drawn_from(path):
    tree = ast.parse(path.read_text())
    return [node.module for node in tree.body if isinstance(node, ast.ImportFrom)]


class FormTest(unittest.TestCase):
    def files(self):
        return sorted(path for path in PACKAGE.rglob("*") if "__pycache__" not in path.parts)

    def test_nothing_but_plain_files_lies_in_the_package(self):
        names = [path.name for path in self.files()]
        self.assertIn("__init__.py", names)
        for name in names:
            self.assertTrue(name == "__init__.py" or re.fullmatch(r"[a-z][a-z0-9_]*\.py", name), name)
            self.assertNotIn(name[:-3], BUILT_IN)

    def test_every_file_keeps_to_the_rules(self):
        for path in self.files():
            self.assertEqual(faults(path.read_text(encoding="utf-8")), [], path.name)

    def test_no_two_files_draw_from_one_another(self):
        drawn = {f"risecount.{path.stem}": drawn_from(path) for path in self.files()}
        while drawn:
            free = [name for name in drawn if not any(other in drawn for other in drawn[name])]
            self.assertTrue(free, drawn)
            drawn = {name: others for name, others in drawn.items() if name not in free}

    def test_names_are_drawn_from_the_file_that_defines_them(self):
        for path in self.files():
            for node in ast.parse(path.read_text()).body:
                if isinstance(node, ast.ImportFrom):
                    source = PACKAGE / (node.module.split(".")[1] + ".py")
                    made = [inner.name for inner in ast.parse(source.read_text()).body
                            if isinstance(inner, (ast.FunctionDef, ast.ClassDef))]
                    for alias in node.names:
                        self.assertIn(alias.name, made)

    def test_no_name_is_a_method_here_and_a_value_there(self):
        values = [name for tree in package_trees() for name in values_in(tree)]
        self.assertEqual(sorted(set(values) & set(own_methods())), [])
        self.assertEqual([name for name in values if is_pythons_own(name)], [])

    def test_the_walk_sees_what_is_out(self):
        for text in (
            "import random\n", "from random import choice\n", "x = 1 / 2\n", "x = 1.5\n", "x = {1, 2}\n",
            "def f(n):\n    return 2 ** n\n", "def f(*n):\n    return n\n", "def f(n):\n    yield n\n",
            "def f(n):\n    return [a for b in n for a in b]\n", "def f(n):\n    a = b = n\n",
            "def f(n):\n    r = range(n)\n    return r\n", "def f(n):\n    s = set(n)\n    return s\n",
            "def f(n):\n    return (a for a in n)\n", "def f(n):\n    assert n\n", "def f(id):\n    return id\n",
            "def f(n):\n    sum = n\n    return sum\n", "def f(n):\n    n.sort()\n", "x = 1\nx = 2\n",
            "def f(n):\n    return n is 3\n", "def f(_):\n    return 1\n", "# a type\n", "x = '\u00e4'\n",
            "def f(n):\n    return f'{n + 1}'\n", "def f(n):\n    return map(str, n)\n", "x = '%'\n",
            "def f(n):\n    try:\n        n()\n    except Exception:\n        pass\n", "def f(n: int):\n    pass\n",
            "def f(n):\n    for a in n:\n        pass\n    else:\n        pass\n", "x = len\n",
            "x = 1\ndef f(x):\n    pass\n",
            "class A:\n    x = 1\n", "class A:\n    def sort(self):\n        pass\n", "def f(n):\n    n.casefold()\n",
            "class A:\n    def f(self):\n        pass\n    def f(self):\n        pass\n",
            "class A:\n    def __hash__(self):\n        return 1\n", "class A(B, C):\n    ''\n",
            "def f(n):\n    return [a for a in reversed(range(n))]\n",
        ):
            self.assertNotEqual(faults(text), [], text)


if __name__ == "__main__":
    unittest.main()
