"""The package's files: their order, and the part of Python that they keep to.

The marks behind the checks (L1 ..) are those of the rules in LANGUAGE.md. Not every
rule can be looked at from here: what passes may still be outside of one.
"""

import ast
import builtins
import pathlib
import re
import unittest
from types import NoneType

PACKAGE = pathlib.Path(__file__).resolve().parent.parent / "thingyard"

# As the document's stages tell them: a file draws only from those ahead of it.
ORDER = (
    "errors signs tokens trees reading telling books finding parts works shelves leaning rings"
    " accounts settling yards readers commands desks"
).split()

STATEMENTS = (
    ast.Assign, ast.AugAssign, ast.If, ast.While, ast.For, ast.Return, ast.Break, ast.Continue, ast.Pass,
    ast.Raise, ast.Try, ast.Expr, ast.FunctionDef, ast.ClassDef, ast.ImportFrom,
)
EXPRESSIONS = (
    ast.Constant, ast.List, ast.Tuple, ast.Dict, ast.Set, ast.BinOp, ast.UnaryOp, ast.BoolOp, ast.Compare,
    ast.IfExp, ast.Call, ast.Attribute, ast.Subscript, ast.Slice, ast.ListComp, ast.JoinedStr,
    ast.FormattedValue, ast.Name, ast.Lambda,
)
OWN_NAMES = set(
    "len range enumerate zip min max sum abs sorted reversed int str bool list tuple dict set frozenset"
    " isinstance ord repr any all divmod Exception ValueError TypeError KeyError IndexError LookupError"
    " ZeroDivisionError ArithmeticError OverflowError RuntimeError NotImplementedError AttributeError"
    " StopIteration".split()
)
OWN_METHODS = set(
    "append clear copy count endswith extend find get index insert isalnum isalpha isdigit islower isspace"
    " isupper items join keys ljust lower lstrip partition pop remove replace reverse rfind rjust rpartition"
    " rsplit rstrip setdefault split splitlines startswith strip update upper values zfill bit_length".split()
)
UNDERSCORED = ("__init__", "__eq__", "__repr__", "__str__", "__len__")
UNSAID = (
    r"\b(type|typing|typing_extensions|enum|Enum|IntEnum|StrEnum|Flag|IntFlag|Generic|Protocol|ABC|ABCMeta"
    r"|namedtuple|NamedTuple|TypedDict|TYPE_CHECKING|abstractmethod)\b|dataclass|overload|contextmanager"
)


def module_files():
    return sorted(path for path in PACKAGE.iterdir() if path.name != "__pycache__")


def trees():
    return [(path, ast.parse(path.read_text())) for path in module_files()]


def nodes(kind):
    return [(path, node) for path, tree in trees() for node in ast.walk(tree) if isinstance(node, kind)]


def bound_names(tree):
    names = []
    for node in ast.walk(tree):
        if isinstance(node, ast.arg):
            names.append(node.arg)
        elif isinstance(node, ast.Name) and isinstance(node.ctx, ast.Store):
            names.append(node.id)
        elif isinstance(node, ast.ExceptHandler) and node.name:
            names.append(node.name)
    return names


def defined_at_top(tree):
    names = []
    for node in tree.body:
        if isinstance(node, (ast.FunctionDef, ast.ClassDef)):
            names.append(node.name)
        elif isinstance(node, ast.Assign):
            names.append(node.targets[0].id)
    return names


class FormTest(unittest.TestCase):

    def holds(self, true, path, node, rule):
        self.assertTrue(true, f"{path.name}:{getattr(node, 'lineno', 0)} {rule}")


class FilesTest(FormTest):

    def test_only_the_documents_files_are_there(self):
        stems = [path.stem for path in module_files()]
        self.assertIn("__init__", stems)
        for path in module_files():
            self.assertTrue(path.is_file() and path.suffix == ".py", path.name)
            self.assertIn(path.stem, ORDER + ["__init__"])

    def test_init_is_empty_but_for_its_first_words(self):
        tree = ast.parse((PACKAGE / "__init__.py").read_text())
        self.assertEqual(len(tree.body), 1)
        self.assertIsNotNone(ast.get_docstring(tree))

    def test_no_file_uses_one_that_stands_behind_it(self):
        for path, node in nodes((ast.Import, ast.ImportFrom)):
            self.holds(isinstance(node, ast.ImportFrom) and node.level == 0, path, node, "L16")
            package, point, module = node.module.partition(".")
            self.holds(package == "thingyard" and module in ORDER, path, node, "L2")
            self.holds(ORDER.index(module) < ORDER.index(path.stem), path, node, "promise 3")

    def test_names_are_drawn_from_where_they_are_defined(self):
        defined = {path.stem: defined_at_top(tree) for path, tree in trees()}
        for path, node in nodes(ast.ImportFrom):
            for alias in node.names:
                self.holds(alias.name in defined[node.module.partition(".")[2]], path, node, "L16")

    def test_signs_and_sizes(self):
        for path in module_files():
            text = path.read_bytes().decode("ascii")
            rows = text.split("\n")
            self.assertTrue(all(sign == "\n" or " " <= sign <= "~" for sign in text), path.name + " L14")
            self.assertLessEqual(len(rows), 400, path.name + " L10")
            self.assertLessEqual(max(len(row) for row in rows), 120, path.name + " L10")
            self.assertIsNone(re.search(UNSAID, text), path.name + " L17")

    def test_functions_are_short(self):
        for path, node in nodes(ast.FunctionDef):
            self.holds(node.end_lineno - node.lineno < 40, path, node, "L10")


class RulesTest(FormTest):

    def test_statements_and_expressions(self):
        for path, node in nodes(ast.stmt):
            self.holds(isinstance(node, STATEMENTS), path, node, "L6")
        for path, node in nodes(ast.expr):
            self.holds(isinstance(node, EXPRESSIONS), path, node, "L7")

    def test_expressions_by_themselves_are_calls(self):
        for path, tree in trees():
            for node in ast.walk(tree):
                if isinstance(node, ast.Expr) and node is not tree.body[0]:
                    self.holds(isinstance(node.value, ast.Call), path, node, "L6")

    def test_details_of_statements(self):
        for path, node in nodes((ast.For, ast.While)):
            self.holds(not node.orelse, path, node, "L6")
        for path, node in nodes(ast.Try):
            self.holds(not node.finalbody and all(handler.type for handler in node.handlers), path, node, "L6")
        for path, node in nodes(ast.Assign):
            self.holds(len(node.targets) == 1, path, node, "L6")
        for path, node in nodes((ast.FunctionDef, ast.ClassDef)):
            self.holds(not node.decorator_list, path, node, "L4 L5")
        for path, node in nodes(ast.ClassDef):
            self.holds(len(node.bases) <= 1 and not node.keywords, path, node, "L5")
            self.holds(all(isinstance(part, (ast.FunctionDef, ast.Pass)) for part in node.body), path, node, "L5")
        for path, node in nodes(ast.arguments):
            plain = not (node.vararg or node.kwarg or node.kwonlyargs or node.posonlyargs)
            self.holds(plain, path, node, "L4")
        for path, node in nodes(ast.comprehension):
            self.holds(len(node.ifs) <= 1 and not node.is_async, path, node, "L7")
        for path, node in nodes(ast.ListComp):
            self.holds(len(node.generators) == 1, path, node, "L7")

    def test_values(self):
        for path, node in nodes(ast.Constant):
            self.holds(node.value is None or isinstance(node.value, (bool, int, str)), path, node, "L7")
            self.holds(not isinstance(node.value, str) or "%" not in node.value, path, node, "L27")
        for path, node in nodes(ast.BinOp):
            self.holds(not isinstance(node.op, (ast.Div, ast.MatMult)), path, node, "L7")
        for path, node in nodes(ast.Compare):
            for operator, right in zip(node.ops, node.comparators):
                if isinstance(operator, (ast.Is, ast.IsNot)):
                    plain = isinstance(right, ast.Constant) and isinstance(right.value, (bool, NoneType))
                    self.holds(plain, path, node, "L20")

    def test_pythons_own_names(self):
        for path, node in nodes(ast.Name):
            if node.id in dir(builtins):
                self.holds(node.id in OWN_NAMES, path, node, "L8")

    def test_pythons_own_methods(self):
        own = set()
        for kind in (str, int, list, tuple, dict, set, bytes):
            own |= {name for name in dir(kind) if not name.startswith("__")}
        for path, node in nodes(ast.Attribute):
            if node.attr in own:
                self.holds(node.attr in OWN_METHODS | {"add", "discard"}, path, node, "L25 L26")

    def test_names(self):
        for path, tree in trees():
            for name in bound_names(tree):
                self.holds(re.fullmatch("[A-Za-z][A-Za-z0-9_]*", name), path, tree, "L12 " + name)
                self.holds(name not in dir(builtins), path, tree, "L15 " + name)
        for path, node in nodes((ast.FunctionDef, ast.ClassDef)):
            self.holds(not node.name.startswith("_") or node.name in UNDERSCORED, path, node, "L5 L12")
        for path, node in nodes(ast.Attribute):
            self.holds(not node.attr.startswith("_") or node.attr in UNDERSCORED, path, node, "L8 L12")

    def test_each_name_is_bound_once_at_the_top(self):
        for path, tree in trees():
            names = defined_at_top(tree)
            for node in tree.body:
                if isinstance(node, ast.ImportFrom):
                    names += [alias.asname or alias.name for alias in node.names]
            self.assertEqual(len(names), len(set(names)), path.name + " L15")


if __name__ == "__main__":
    unittest.main()
