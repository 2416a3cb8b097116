"""Holds the package against those rules of LANGUAGE.md that can be read off its files.

A rule's number stands in the words of each finding. What a reader of files can't see is left to readers of code.
"""

import ast
import builtins
import pathlib
import re
import unittest

PACKAGE = pathlib.Path(__file__).resolve().parent.parent / "nearpool"

STATEMENTS = (
    ast.Assign, ast.AugAssign, ast.AnnAssign, ast.If, ast.While, ast.For, ast.Return, ast.Break, ast.Continue, ast.Pass,
    ast.Raise, ast.Try, ast.ExceptHandler, ast.Expr, ast.Assert, ast.Delete, ast.FunctionDef, ast.ClassDef,
    ast.ImportFrom,
)
EXPRESSIONS = (
    ast.Constant, ast.Name, ast.Attribute, ast.Subscript, ast.Slice, ast.Call, ast.keyword, ast.List, ast.Tuple,
    ast.Dict, ast.Set, ast.ListComp, ast.DictComp, ast.SetComp, ast.comprehension, ast.BinOp, ast.UnaryOp, ast.BoolOp,
    ast.Compare, ast.IfExp, ast.Lambda, ast.JoinedStr, ast.FormattedValue, ast.Starred, ast.operator, ast.unaryop,
    ast.boolop, ast.cmpop, ast.expr_context, ast.arguments, ast.arg, ast.Module,
)
OWN_OF_PYTHON = set(
    "len range enumerate zip min max sum abs sorted reversed int str bool bytes list tuple dict set isinstance ord repr "
    "any all divmod Exception ValueError TypeError KeyError IndexError LookupError ZeroDivisionError ArithmeticError "
    "OverflowError RuntimeError NotImplementedError AttributeError StopIteration".split()
)
METHODS = set(
    "append clear copy count endswith extend find get index insert isalnum isalpha isdigit islower isspace isupper items "
    "join keys ljust lower lstrip partition pop remove replace reverse rfind rjust rpartition rsplit rstrip setdefault "
    "split splitlines startswith strip update upper values zfill bit_length add discard sort".split()
)
UNDERSCORED = {"__init__", "__eq__", "__repr__", "__str__", "__len__"}
NO_NAMES = set(
    "register mro elements open input version_info with_traceback add_note attrgetter breakpoint builtins compile "
    "copyright credits delattr dir eval exec exit gc getattr globals hasattr help id importlib license locals "
    "methodcaller os quit setattr super type vars sys format format_map args".split()
)
NO_WORDS = (
    "type typing typing_extensions enum Enum IntEnum StrEnum Flag IntFlag Generic Protocol ABC ABCMeta namedtuple "
    "NamedTuple TypedDict TYPE_CHECKING abstractmethod"
).split()
NO_PARTS = ("dataclass", "overload", "contextmanager")


def bound_names(tree):
    """Each name that the file gives a meaning, with the node that gives it."""
    for node in ast.walk(tree):
        if isinstance(node, (ast.FunctionDef, ast.ClassDef)):
            yield node.name, node
        elif isinstance(node, ast.arg):
            yield node.arg, node
        elif isinstance(node, ast.Name) and not isinstance(node.ctx, ast.Load):
            yield node.id, node
        elif isinstance(node, ast.ExceptHandler) and node.name:
            yield node.name, node
        elif isinstance(node, ast.Attribute) and isinstance(node.ctx, ast.Store):
            yield node.attr, node
        elif isinstance(node, ast.ImportFrom):
            for name in node.names:
                yield name.asname or name.name, node


def is_plain(node):
    """Whether it is a value that may stand at a file's top."""
    parts = (ast.Constant, ast.List, ast.Tuple, ast.Dict, ast.Name, ast.BinOp, ast.UnaryOp, ast.operator, ast.unaryop)
    return all(isinstance(part, parts + (ast.expr_context,)) for part in ast.walk(node))


def is_docstring(node):
    return isinstance(node, ast.Expr) and isinstance(node.value, ast.Constant) and isinstance(node.value.value, str)


class LanguageTest(unittest.TestCase):
    def setUp(self):
        self.files = sorted(path for path in PACKAGE.rglob("*") if "__pycache__" not in path.parts)
        self.texts = {path.name: path.read_text(encoding="utf-8") for path in self.files}
        self.trees = {name: ast.parse(text) for name, text in self.texts.items()}

    def hold(self, rule, name, node, right):
        self.assertTrue(right, f"{rule}: {name}, line {getattr(node, 'lineno', node)}")

    def each_node(self):
        for name, tree in self.trees.items():
            for node in ast.walk(tree):
                yield name, node

    def test_files(self):
        self.assertIn("__init__.py", self.texts)
        for path in self.files:
            self.assertRegex(path.name, r"^([a-z][a-z0-9_]*|__init__|__main__)\.py$", "L1")
            self.assertTrue(path.is_file(), "L1")
            self.assertFalse(path.stem in dir(builtins) or path.stem.startswith("test"), "L14")

    def test_signs_and_sizes(self):
        for name, text in self.texts.items():
            rows = text.split("\n")
            self.hold("L10", name, len(rows), len(rows) <= 400)
            for at, row in enumerate(rows, start=1):
                self.hold("L10", name, at, len(row) <= 120)
                self.hold("L14", name, at, all(" " <= sign <= "~" for sign in row))
            for word in re.findall(r"\w+", text):
                self.hold("L17", name, word, word not in NO_WORDS and not any(part in word for part in NO_PARTS))
        for name, node in self.each_node():
            if isinstance(node, ast.FunctionDef):
                self.hold("L10", name, node, node.end_lineno - node.lineno < 40)

    def test_statements_and_expressions(self):
        for name, node in self.each_node():
            known = isinstance(node, STATEMENTS + EXPRESSIONS + (ast.alias,))
            self.hold("L6, L7", name, node, known and not isinstance(node, (ast.Div, ast.MatMult)))
            if isinstance(node, (ast.For, ast.While)):
                self.hold("L6", name, node, not node.orelse)
            if isinstance(node, ast.Starred):
                self.hold("L7", name, node, isinstance(node.ctx, ast.Store))
            if isinstance(node, ast.FormattedValue):
                self.hold("L7", name, node, node.format_spec is None)
            if isinstance(node, ast.BinOp) and isinstance(node.op, ast.Pow):
                self.hold("L27", name, node, isinstance(node.right, ast.Constant) and 0 <= node.right.value <= 64)

    def test_constants(self):
        for name, node in self.each_node():
            if isinstance(node, ast.Constant):
                value = node.value
                self.hold("L7", name, node, value is None or isinstance(value, (int, str, bytes)))
                self.hold("L27", name, node, not isinstance(value, str) or "%" not in value)

    def test_imports(self):
        tops = {name: {told for told, node in bound_names(tree)} for name, tree in self.trees.items()}
        drawn = {name: set() for name in self.trees}
        for name, node in self.each_node():
            if isinstance(node, ast.ImportFrom):
                self.hold("L2", name, node, node in self.trees[name].body and node.level == 0)
                self.hold("L2", name, node, re.fullmatch(r"nearpool\.[a-z_]+", node.module))
                source = node.module.partition(".")[2] + ".py"
                self.hold("L16", name, node, source in tops and all(told.name in tops[source] for told in node.names))
                drawn[name] |= {source, "__init__.py"}
        for name in drawn:
            reached, behind = set(), list(drawn[name])
            while behind:
                source = behind.pop()
                if source not in reached:
                    reached.add(source)
                    behind += drawn[source]
            self.hold("L16", name, 1, name not in reached)

    def test_the_top_of_each_file(self):
        for name, tree in self.trees.items():
            given = []
            for node in tree.body:
                if isinstance(node, ast.Assign):
                    one = len(node.targets) == 1 and isinstance(node.targets[0], ast.Name)
                    self.hold("L3", name, node, one and is_plain(node.value))
                    given.append(node.targets[0].id)
                elif isinstance(node, (ast.FunctionDef, ast.ClassDef)):
                    given.append(node.name)
                elif isinstance(node, ast.ImportFrom):
                    given += [told.name for told in node.names]
                else:
                    self.hold("L3", name, node, is_docstring(node))
            self.assertEqual(len(given), len(set(given)), f"L15: {name}")

    def test_functions_and_classes(self):
        for name, node in self.each_node():
            if isinstance(node, (ast.FunctionDef, ast.ClassDef)):
                self.hold("L4, L5", name, node, not node.decorator_list)
            if isinstance(node, ast.arguments):
                self.hold("L4", name, name, not (node.vararg or node.kwarg or node.posonlyargs))
            if isinstance(node, ast.ClassDef):
                self.hold("L15", name, node, node in self.trees[name].body)
                self.hold("L5", name, node, len(node.bases) <= 1 and not node.keywords)
                for part in node.body:
                    self.hold("L5", name, part, isinstance(part, ast.FunctionDef) or is_docstring(part))

    def test_names_that_are_given(self):
        for name, tree in self.trees.items():
            for told, node in bound_names(tree):
                plain = re.fullmatch(r"[A-Za-z][A-Za-z0-9_]*", told) or told in UNDERSCORED
                self.hold("L12", name, node, plain)
                self.hold("L17", name, node, told not in NO_NAMES)
                if told not in UNDERSCORED and not isinstance(node, ast.Attribute):
                    self.hold("L15", name, node, told not in dir(builtins))

    def test_names_that_are_read(self):
        for name, tree in self.trees.items():
            own = {told for told, node in bound_names(tree)}
            for node in ast.walk(tree):
                if isinstance(node, ast.Name) and isinstance(node.ctx, ast.Load):
                    self.hold("L8", name, node, node.id in own or node.id in OWN_OF_PYTHON)

    def test_values_and_methods(self):
        own = set()
        for tree in self.trees.values():
            own |= {told for told, node in bound_names(tree)}
        for name, node in self.each_node():
            if isinstance(node, ast.Attribute):
                self.hold("L18, L25", name, node, node.attr in own | METHODS | {"__init__"})
                self.hold("L17", name, node, node.attr not in NO_NAMES)

    def test_errors(self):
        caught = {"KeyError", "ZeroDivisionError", "StopIteration", "ValueError", "LookupError", "IndexError"}
        classes = {node.name for name, node in self.each_node() if isinstance(node, ast.ClassDef)}
        for name, node in self.each_node():
            if isinstance(node, ast.ExceptHandler):
                self.hold("L19", name, node, node.type is not None)
                named = node.type.elts if isinstance(node.type, ast.Tuple) else [node.type]
                self.hold("L19", name, node, named and all(one.id in caught | classes for one in named))
            if isinstance(node, ast.Raise) and node.exc is not None:
                made = isinstance(node.exc, ast.Call) and isinstance(node.exc.func, ast.Name)
                self.hold("L19", name, node, made and node.exc.func.id in classes | OWN_OF_PYTHON)

    def test_is(self):
        for name, node in self.each_node():
            if isinstance(node, ast.Compare):
                for sign, right in zip(node.ops, node.comparators):
                    if isinstance(sign, (ast.Is, ast.IsNot)):
                        lone = isinstance(right, ast.Constant) and (right.value is None or isinstance(right.value, bool))
                        self.hold("L20", name, node, lone)


if __name__ == "__main__":
    unittest.main()
