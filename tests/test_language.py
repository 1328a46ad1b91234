"""The package keeps to the part of Python that it is to be written in (rules L1 to L28, as far as a look can tell)."""

import ast
import builtins
import pathlib
import re
import unittest

PACKAGE = pathlib.Path(__file__).resolve().parent.parent / "markwords"
FILES = sorted(PACKAGE.rglob("*.py"))

ERRORS = {
    "Exception", "ValueError", "TypeError", "KeyError", "IndexError", "LookupError", "ZeroDivisionError",
    "ArithmeticError", "OverflowError", "RuntimeError", "NotImplementedError", "AttributeError", "StopIteration",
}
BUILT_IN = ERRORS | set(
    "len range enumerate zip min max sum abs sorted reversed int str bool list tuple dict set frozenset isinstance ord "
    "repr any all divmod".split()
)
METHODS = set(
    "append clear copy count endswith extend find get index insert isalnum isalpha isdigit islower isspace isupper items "
    "join keys ljust lower lstrip partition pop remove replace reverse rfind rjust rpartition rsplit rstrip setdefault "
    "split splitlines startswith strip update upper values zfill bit_length".split()
)
OWN_AS_VALUES = set("count index title find get join lower upper split strip copy add".split())
DUNDERS = {"__init__", "__eq__", "__repr__", "__str__", "__len__"}
NODES = (
    ast.Module, ast.FunctionDef, ast.ClassDef, ast.Return, ast.Assign, ast.AugAssign, ast.If, ast.While, ast.For,
    ast.Break, ast.Continue, ast.Pass, ast.Raise, ast.Try, ast.ExceptHandler, ast.Expr, ast.ImportFrom, ast.alias,
    ast.arguments, ast.arg, ast.Name, ast.Load, ast.Store, ast.Constant, ast.List, ast.Tuple, ast.Dict, ast.Set,
    ast.ListComp, ast.comprehension, ast.BinOp, ast.BoolOp, ast.UnaryOp, ast.Compare, ast.Call, ast.keyword,
    ast.Attribute, ast.Subscript, ast.Slice, ast.IfExp, ast.JoinedStr, ast.FormattedValue, ast.Lambda,
    ast.operator, ast.unaryop, ast.boolop, ast.cmpop,
)
NO_NAMES = set(
    "register mro elements open input version_info with_traceback add_note attrgetter breakpoint builtins compile "
    "copyright credits delattr dir eval exec exit gc getattr globals hasattr help id importlib license locals "
    "methodcaller os quit setattr super type vars sys format format_map chr".split()
)
NO_WORDS = re.compile(
    r"\b(type|typing|typing_extensions|enum|Enum|IntEnum|StrEnum|Flag|IntFlag|Generic|Protocol|ABC|ABCMeta|namedtuple|"
    r"NamedTuple|TypedDict|TYPE_CHECKING|abstractmethod)\b|dataclass|overload|contextmanager"
)
KEYWORDS = {
    "sorted": {"key", "reverse"}, "min": {"key", "default"}, "max": {"key", "default"}, "sum": {"start"},
    "enumerate": {"start"}, "zip": {"strict"},
}
WALKED = {"zip", "enumerate", "reversed", "range", "items", "keys", "values"}
WALKERS = {"list", "tuple", "dict", "sorted", "sum", "any", "all", "enumerate", "zip", "min", "max", "join"}
CHANGES = set("append clear extend insert pop remove reverse setdefault update".split())
TOP_LEVEL = (ast.FunctionDef, ast.ClassDef, ast.ImportFrom, ast.Assign)


def called_name(call):
    """The name that a call calls, of a function or a method."""
    if isinstance(call.func, ast.Attribute):
        return call.func.attr
    return call.func.id if isinstance(call.func, ast.Name) else ""


def is_docstring(node):
    return isinstance(node, ast.Expr) and isinstance(node.value, ast.Constant) and isinstance(node.value.value, str)


class Source:
    """A file of the package, with all that the rules ask for."""

    def __init__(self, path):
        self.path = path
        self.text = path.read_text(encoding="utf-8")
        self.tree = ast.parse(self.text)
        self.nodes = list(ast.walk(self.tree))
        self.parents = {child: node for node in self.nodes for child in ast.iter_child_nodes(node)}
        self.top = [name for node in self.tree.body for name in self.bound_by(node)]

    def bound_by(self, node):
        if isinstance(node, (ast.FunctionDef, ast.ClassDef)):
            return [node.name]
        if isinstance(node, ast.ImportFrom):
            return [alias.asname or alias.name for alias in node.names]
        return [target.id for target in node.targets] if isinstance(node, ast.Assign) else []

    def defined(self):
        """The names of the top that are defined here, not drawn from elsewhere."""
        return [name for node in self.tree.body if not isinstance(node, ast.ImportFrom) for name in self.bound_by(node)]

    def all_of(self, *kinds):
        return [node for node in self.nodes if isinstance(node, kinds)]

    def bound(self):
        """Every name that is bound anywhere in the file."""
        names = set(self.top) | {node.id for node in self.all_of(ast.Name) if isinstance(node.ctx, ast.Store)}
        names |= {node.arg for node in self.all_of(ast.arg)} | {node.name for node in self.all_of(ast.FunctionDef)}
        return names | {node.name for node in self.all_of(ast.ExceptHandler) if node.name}


SOURCES = [Source(path) for path in FILES]
OWN_METHODS = {
    part.name for source in SOURCES for node in source.all_of(ast.ClassDef) for part in node.body
    if isinstance(part, ast.FunctionDef)
}
OWN_VALUES = {
    node.attr for source in SOURCES for node in source.all_of(ast.Attribute) if isinstance(node.ctx, ast.Store)
}
OWN_ERRORS = {
    node.name for source in SOURCES if source.path.name == "errors.py" for node in source.all_of(ast.ClassDef)
}


class Language(unittest.TestCase):
    def each(self, *kinds):
        for source in SOURCES:
            for node in source.all_of(*kinds):
                yield source, node, f"{source.path.name}:{getattr(node, 'lineno', 0)}"

    def test_files(self):
        self.assertTrue(FILES)
        for path in PACKAGE.rglob("*"):
            if "__pycache__" not in path.parts:
                self.assertRegex(path.name, r"\A[a-z0-9_]+(\.py)?\Z")
                self.assertFalse(path.stem.startswith("test") or path.stem in dir(builtins), path)

    def test_signs_sizes_and_words(self):
        for source in SOURCES:
            rows = source.text.split("\n")
            self.assertLessEqual(len(rows), 401, source.path)
            for number, row in enumerate(rows, 1):
                self.assertRegex(row, r"\A[ -~]{0,120}\Z", f"{source.path.name}:{number}")
                self.assertIsNone(NO_WORDS.search(row), f"{source.path.name}:{number}")

    def test_nodes(self):
        for source, node, where in self.each(ast.AST):
            self.assertIsInstance(node, NODES, where)
        for source, node, where in self.each(ast.Div, ast.MatMult):
            self.fail(where)

    def test_top_of_a_file(self):
        for source in SOURCES:
            self.assertEqual(len(source.top), len(set(source.top)), source.path)
            for place, node in enumerate(source.tree.body):
                self.assertTrue(isinstance(node, TOP_LEVEL) or place == 0 and is_docstring(node), node)
                if isinstance(node, ast.Assign):
                    for part in ast.walk(node.value):
                        self.assertNotIsInstance(part, (ast.Call, ast.Set, ast.Lambda, ast.ListComp), source.path)
                    for part in list(ast.walk(node.value))[1:]:
                        self.assertNotIsInstance(part, (ast.List, ast.Dict), source.path)
        for source, node, where in self.each(ast.ClassDef):
            self.assertIsInstance(source.parents[node], ast.Module, where)

    def test_imports(self):
        defined = {f"markwords.{source.path.stem}": source.defined() for source in SOURCES}
        draws = {f"markwords.{source.path.stem}": set() for source in SOURCES}
        for source, node, where in self.each(ast.ImportFrom):
            self.assertEqual(node.level, 0, where)
            self.assertIn(node.module, defined, where)
            for alias in node.names:
                self.assertIn(alias.name, defined[node.module], where)
            draws[f"markwords.{source.path.stem}"].add(node.module)
        while draws:
            free = [name for name, others in draws.items() if not others & set(draws)]
            self.assertTrue(free, f"these draw from one another: {sorted(draws)}")
            draws = {name: others for name, others in draws.items() if name not in free}

    def test_functions(self):
        for source, node, where in self.each(ast.FunctionDef):
            self.assertLessEqual(node.end_lineno - node.lineno + 1, 40, where)
            self.assertEqual(node.decorator_list, [], where)
        for source, node, where in self.each(ast.arguments):
            self.assertFalse(node.vararg or node.kwarg or node.kwonlyargs or node.posonlyargs, source.path)

    def test_classes(self):
        for source, node, where in self.each(ast.ClassDef):
            self.assertLessEqual(len(node.bases), 1, where)
            self.assertFalse(node.decorator_list or node.keywords, where)
            names = [part.name for part in node.body if isinstance(part, ast.FunctionDef)]
            self.assertEqual(len(names), len(set(names)), where)
            for part in node.body:
                self.assertTrue(isinstance(part, (ast.FunctionDef, ast.Pass)) or is_docstring(part), where)
        self.assertEqual(OWN_METHODS & OWN_VALUES, set())
        python_s_own = {name for kind in (str, int, list, dict, set, bytes) for name in dir(kind)}
        self.assertEqual((OWN_METHODS & python_s_own) - METHODS - DUNDERS - {"add", "discard"}, set())
        self.assertEqual((OWN_VALUES & (python_s_own | {"args"})) - OWN_AS_VALUES, set())

    def test_statements(self):
        for source, node, where in self.each(ast.Assign):
            self.assertEqual(len(node.targets), 1, where)
            self.assertIsInstance(node.targets[0], (ast.Name, ast.Attribute, ast.Subscript), where)
        for source, node, where in self.each(ast.For, ast.While):
            self.assertEqual(node.orelse, [], where)
        for source, node, where in self.each(ast.Try):
            self.assertEqual(node.finalbody, [], where)
        for source, node, where in self.each(ast.ExceptHandler):
            self.assertIsInstance(node.type, ast.Name, where)
            self.assertIn(node.type.id, OWN_ERRORS | {"KeyError", "ZeroDivisionError", "StopIteration"}, where)
        for source, node, where in self.each(ast.Raise):
            self.assertIsInstance(node.exc, ast.Call, where)
            self.assertIn(called_name(node.exc), OWN_ERRORS, where)
        for source, node, where in self.each(ast.Expr):
            self.assertTrue(is_docstring(node) or isinstance(node.value, ast.Call), where)
        for source, node, where in self.each(ast.comprehension):
            self.assertLessEqual(len(node.ifs), 1, where)
            self.assertEqual(len(source.parents[node].generators), 1, where)

    def test_names(self):
        for source in SOURCES:
            bound = source.bound()
            self.assertEqual(bound & set(dir(builtins)) - {"__doc__"} - OWN_METHODS, set(), source.path)
            for name in bound - DUNDERS:
                self.assertRegex(name, r"\A[A-Za-z][A-Za-z0-9_]*\Z", source.path)
            for node in source.all_of(ast.Name):
                self.assertIn(node.id, bound | BUILT_IN, source.path)
                self.assertNotIn(node.id, NO_NAMES, source.path)
            inner = {node.arg for node in source.all_of(ast.arg)}
            inner |= {node.id for node in source.all_of(ast.Name) if isinstance(node.ctx, ast.Store)} - set(source.top)
            self.assertEqual(inner & set(source.top), set(), source.path)

    def test_attributes(self):
        for source, node, where in self.each(ast.Attribute):
            self.assertNotIn(node.attr, NO_NAMES, where)
            self.assertIn(node.attr, METHODS | OWN_METHODS | OWN_VALUES | DUNDERS, where)

    def test_values(self):
        for source, node, where in self.each(ast.Constant):
            self.assertIsInstance(node.value, (int, str, type(None)), where)
            if isinstance(node.value, str):
                self.assertNotIn("%", node.value, where)
        for source, node, where in self.each(ast.BinOp):
            if isinstance(node.op, ast.Pow):
                self.assertIsInstance(node.right, ast.Constant, where)
                self.assertIn(node.right.value, range(65), where)
        for source, node, where in self.each(ast.FormattedValue):
            self.assertIsInstance(node.value, ast.Name, where)
            self.assertIsNone(node.format_spec, where)
        for source, node, where in self.each(ast.Compare):
            if any(isinstance(op, (ast.Is, ast.IsNot)) for op in node.ops):
                sides = [side.value for side in [node.left] + node.comparators if isinstance(side, ast.Constant)]
                self.assertTrue(any(side in (None, True, False) for side in sides), where)

    def test_calls(self):
        for source, node, where in self.each(ast.Call):
            name = called_name(node)
            for keyword in node.keywords:
                self.assertIn(keyword.arg, KEYWORDS.get(name, set()), where)
            if name in WALKED:
                around = source.parents[node]
                walked = isinstance(around, (ast.For, ast.comprehension)) and around.iter == node
                handed = isinstance(around, ast.Call) and called_name(around) in WALKERS
                self.assertTrue(walked or handed, where)
            self.assertNotIn(name, ("set", "frozenset", "print"), where)

    def test_what_a_loop_walks_is_not_changed_in_it(self):
        for source, loop, where in self.each(ast.For):
            walked = {node.id for node in ast.walk(loop.iter) if isinstance(node, ast.Name)}
            if isinstance(loop.iter, ast.Call) and called_name(loop.iter) == "list":
                continue
            for node in [part for row in loop.body for part in ast.walk(row)]:
                changed = None
                if isinstance(node, ast.Attribute) and node.attr in CHANGES:
                    changed = node.value
                if isinstance(node, ast.Subscript) and isinstance(node.ctx, ast.Store):
                    changed = node.value
                if isinstance(changed, ast.Name):
                    self.assertNotIn(changed.id, walked, where)

    def test_python_s_own_names_are_called_not_kept(self):
        for source, node, where in self.each(ast.Name):
            around = source.parents[node]
            if node.id in BUILT_IN - ERRORS and not (isinstance(around, ast.Call) and around.func == node):
                named = isinstance(around, ast.Call) and called_name(around) == "isinstance"
                self.assertTrue(named or isinstance(around, (ast.Tuple, ast.keyword)), where)


if __name__ == "__main__":
    unittest.main()
