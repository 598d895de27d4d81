"""The package's files: their order, and the part of Python that they keep to.

The marks behind the checks (L1 ..) are those of the rules in LANGUAGE.md. Not every
rule can be looked at from here: what passes may still be outside of one.
"""

import ast
import builtins
import pathlib
import re
import unittest
from types import NoneType

PACKAGE = pathlib.Path(__file__).resolve().parent.parent / "thingyard"

# As the document's stages tell them: a file draws only from those ahead of it.
ORDER = (
    "errors signs tokens trees reading telling books finding parts works shelves leaning rings"
    " accounts settling yards readers commands desks"
).split()

STATEMENTS = (
    ast.Assign, ast.AugAssign, ast.If, ast.While, ast.For, ast.Return, ast.Break, ast.Continue, ast.Pass,
    ast.Raise, ast.Try, ast.Expr, ast.FunctionDef, ast.ClassDef, ast.ImportFrom,
)
EXPRESSIONS = (
    ast.Constant, ast.List, ast.Tuple, ast.Dict, ast.Set, ast.BinOp, ast.UnaryOp, ast.BoolOp, ast.Compare,
    ast.IfExp, ast.Call, ast.Attribute, ast.Subscript, ast.Slice, ast.ListComp, ast.JoinedStr,
    ast.FormattedValue, ast.Name, ast.Lambda,
)
OWN_NAMES = set(
    "len range enumerate zip min max sum abs sorted reversed int str bool list tuple dict set frozenset"
    " isinstance ord repr any all divmod Exception ValueError TypeError KeyError IndexError LookupError"
    " ZeroDivisionError ArithmeticError OverflowError RuntimeError NotImplementedError AttributeError"
    " StopIteration".split()
)
OWN_METHODS = set(
    "append clear copy count endswith extend find get index insert isalnum isalpha isdigit islower isspace"
    " isupper items join keys ljust lower lstrip partition pop remove replace reverse rfind rjust rpartition"
    " rsplit rstrip setdefault split splitlines startswith strip update upper values zfill bit_length".split()
)
ONLY_WALKED = ("zip", "enumerate", "reversed", "range")
WALKERS = ("list", "tuple", "dict", "sorted", "sum", "any", "all", "enumerate", "zip")
KEYWORDS = {
    "sorted": ("key", "reverse"), "min": ("key", "default"), "max": ("key", "default"), "sum": ("start",),
    "enumerate": ("start",), "zip": ("strict",),
}
UNUSED = set(
    "register mro elements open input version_info with_traceback add_note attrgetter breakpoint builtins compile"
    " copyright credits delattr dir eval exec exit gc getattr globals hasattr help id importlib license locals"
    " methodcaller os quit setattr super type vars sys __name__ chr".split()
)
VALUES_UNUSED = set(
    "items keys values pop update append clear extend insert remove reverse setdefault sort args encode format".split()
)
UNDERSCORED = ("__init__", "__eq__", "__repr__", "__str__", "__len__")
UNSAID = (
    r"\b(type|typing|typing_extensions|enum|Enum|IntEnum|StrEnum|Flag|IntFlag|Generic|Protocol|ABC|ABCMeta"
    r"|namedtuple|NamedTuple|TypedDict|TYPE_CHECKING|abstractmethod)\b|dataclass|overload|contextmanager"
)


def module_files():
    return sorted(path for path in PACKAGE.iterdir() if path.name != "__pycache__")


def trees():
    return [(path, ast.parse(path.read_text())) for path in module_files()]


def nodes(kind):
    return [(path, node) for path, tree in trees() for node in ast.walk(tree) if isinstance(node, kind)]


def bound_names(tree):
    names = []
    for node in ast.walk(tree):
        if isinstance(node, ast.arg):
            names.append(node.arg)
        elif isinstance(node, ast.Name) and isinstance(node.ctx, ast.Store):
            names.append(node.id)
        elif isinstance(node, ast.ExceptHandler) and node.name:
            names.append(node.name)
    return names


def parents_of(tree):
    return {child: node for node in ast.walk(tree) for child in ast.iter_child_nodes(node)}


def called(node):
    return node.func.id if isinstance(node, ast.Call) and isinstance(node.func, ast.Name) else None


def is_view(node):
    if called(node) in ONLY_WALKED:
        return True
    return (isinstance(node, ast.Call) and isinstance(node.func, ast.Attribute) and not node.args
            and node.func.attr in ("items", "keys", "values"))


def is_walked(node, parent):
    if isinstance(parent, (ast.For, ast.comprehension)):
        return parent.iter is node
    if called(parent) in WALKERS:
        return parent.args[0] is node or called(parent) == "zip"
    if called(parent) in ("min", "max"):
        return parent.args == [node]
    return (isinstance(parent, ast.Call) and isinstance(parent.func, ast.Attribute) and parent.func.attr == "join"
            and isinstance(parent.func.value, ast.Constant))


def is_set_in_place(node, parents):
    parent = parents[node]
    while isinstance(parent, ast.BinOp):
        node, parent = parent, parents[parent]
    if called(parent) in ("sorted", "len"):
        return parent.args == [node] and not parent.keywords
    return isinstance(parent, ast.Compare)


def methods_and_values():
    methods, values = set(), set()
    for path, tree in trees():
        for node in ast.walk(tree):
            if isinstance(node, ast.ClassDef):
                methods |= {part.name for part in node.body if isinstance(part, ast.FunctionDef)}
            if isinstance(node, ast.Attribute) and isinstance(node.ctx, ast.Store):
                values.add(node.attr)
    return methods, values


def defined_at_top(tree):
    names = []
    for node in tree.body:
        if isinstance(node, (ast.FunctionDef, ast.ClassDef)):
            names.append(node.name)
        elif isinstance(node, ast.Assign):
            names.append(node.targets[0].id)
    return names


class FormTest(unittest.TestCase):

    def holds(self, true, path, node, rule):
        self.assertTrue(true, f"{path.name}:{getattr(node, 'lineno', 0)} {rule}")


class FilesTest(FormTest):

    def test_only_the_documents_files_are_there(self):
        stems = [path.stem for path in module_files()]
        self.assertIn("__init__", stems)
        for path in module_files():
            self.assertTrue(path.is_file() and path.suffix == ".py", path.name)
            self.assertIn(path.stem, ORDER + ["__init__"])

    def test_init_is_empty_but_for_its_first_words(self):
        tree = ast.parse((PACKAGE / "__init__.py").read_text())
        self.assertEqual(len(tree.body), 1)
        self.assertIsNotNone(ast.get_docstring(tree))

    def test_no_file_uses_one_that_stands_behind_it(self):
        for path, node in nodes((ast.Import, ast.ImportFrom)):
            self.holds(isinstance(node, ast.ImportFrom) and node.level == 0, path, node, "L16")
            package, point, module = node.module.partition(".")
            self.holds(package == "thingyard" and module in ORDER, path, node, "L2")
            self.holds(ORDER.index(module) < ORDER.index(path.stem), path, node, "promise 3")

    def test_names_are_drawn_from_where_they_are_defined(self):
        defined = {path.stem: defined_at_top(tree) for path, tree in trees()}
        for path, node in nodes(ast.ImportFrom):
            for alias in node.names:
                self.holds(alias.name in defined[node.module.partition(".")[2]], path, node, "L16")

    def test_what_is_for_the_yards_alone(self):
        for path, node in nodes(ast.ImportFrom):
            if node.module in ("thingyard.accounts", "thingyard.settling"):
                self.holds(path.stem in ("settling", "yards"), path, node, "stage 7")

    def test_signs_and_sizes(self):
        for path in module_files():
            text = path.read_bytes().decode("ascii")
            rows = text.split("\n")
            self.assertTrue(all(sign == "\n" or " " <= sign <= "~" for sign in text), path.name + " L14")
            self.assertLessEqual(len(rows), 400, path.name + " L10")
            self.assertLessEqual(max(len(row) for row in rows), 120, path.name + " L10")
            self.assertIsNone(re.search(UNSAID, text), path.name + " L17")

    def test_functions_are_short(self):
        for path, node in nodes(ast.FunctionDef):
            self.holds(node.end_lineno - node.lineno < 40, path, node, "L10")


class RulesTest(FormTest):

    def test_statements_and_expressions(self):
        for path, node in nodes(ast.stmt):
            self.holds(isinstance(node, STATEMENTS), path, node, "L6")
        for path, node in nodes(ast.expr):
            self.holds(isinstance(node, EXPRESSIONS), path, node, "L7")

    def test_expressions_by_themselves_are_calls(self):
        for path, tree in trees():
            for node in ast.walk(tree):
                if isinstance(node, ast.Expr) and node is not tree.body[0]:
                    self.holds(isinstance(node.value, ast.Call), path, node, "L6")

    def test_details_of_statements(self):
        for path, node in nodes((ast.For, ast.While)):
            self.holds(not node.orelse, path, node, "L6")
        for path, node in nodes(ast.Try):
            self.holds(not node.finalbody and all(handler.type for handler in node.handlers), path, node, "L6")
        for path, node in nodes(ast.Assign):
            self.holds(len(node.targets) == 1, path, node, "L6")
        for path, node in nodes((ast.FunctionDef, ast.ClassDef)):
            self.holds(not node.decorator_list, path, node, "L4 L5")
        for path, node in nodes(ast.ClassDef):
            self.holds(len(node.bases) <= 1 and not node.keywords, path, node, "L5")
            self.holds(all(isinstance(part, (ast.FunctionDef, ast.Pass)) for part in node.body), path, node, "L5")
        for path, node in nodes(ast.arguments):
            plain = not (node.vararg or node.kwarg or node.kwonlyargs or node.posonlyargs)
            self.holds(plain, path, node, "L4")
        for path, node in nodes(ast.comprehension):
            self.holds(len(node.ifs) <= 1 and not node.is_async, path, node, "L7")
        for path, node in nodes(ast.ListComp):
            self.holds(len(node.generators) == 1, path, node, "L7")

    def test_values(self):
        for path, node in nodes(ast.Constant):
            self.holds(node.value is None or isinstance(node.value, (bool, int, str)), path, node, "L7")
            self.holds(not isinstance(node.value, str) or "%" not in node.value, path, node, "L27")
        for path, node in nodes(ast.BinOp):
            self.holds(not isinstance(node.op, (ast.Div, ast.MatMult)), path, node, "L7")
        for path, node in nodes(ast.Compare):
            for operator, right in zip(node.ops, node.comparators):
                if isinstance(operator, (ast.Is, ast.IsNot)):
                    plain = isinstance(right, ast.Constant) and isinstance(right.value, (bool, NoneType))
                    self.holds(plain, path, node, "L20")

    def test_pythons_own_names(self):
        for path, node in nodes(ast.Name):
            if node.id in dir(builtins):
                self.holds(node.id in OWN_NAMES, path, node, "L8")

    def test_pythons_own_methods(self):
        own = set()
        for kind in (str, int, list, tuple, dict, set, bytes):
            own |= {name for name in dir(kind) if not name.startswith("__")}
        for path, node in nodes(ast.Attribute):
            if node.attr in own:
                self.holds(node.attr in OWN_METHODS | {"add", "discard"}, path, node, "L25 L26")

    def test_names(self):
        for path, tree in trees():
            for name in bound_names(tree):
                self.holds(re.fullmatch("[A-Za-z][A-Za-z0-9_]*", name), path, tree, "L12 " + name)
                self.holds(name not in dir(builtins), path, tree, "L15 " + name)
        for path, node in nodes((ast.FunctionDef, ast.ClassDef)):
            self.holds(not node.name.startswith("_") or node.name in UNDERSCORED, path, node, "L5 L12")
        for path, node in nodes(ast.Attribute):
            self.holds(not node.attr.startswith("_") or node.attr in UNDERSCORED, path, node, "L8 L12")

    def test_each_name_is_bound_once_at_the_top(self):
        for path, tree in trees():
            names = defined_at_top(tree)
            for node in tree.body:
                if isinstance(node, ast.ImportFrom):
                    names += [alias.asname or alias.name for alias in node.names]
            self.assertEqual(len(names), len(set(names)), path.name + " L15")

    def test_no_local_is_called_like_a_class_or_an_import(self):
        for path, tree in trees():
            outer = {node.name for node in tree.body if isinstance(node, ast.ClassDef)}
            for node in tree.body:
                if isinstance(node, ast.ImportFrom):
                    outer |= {alias.name for alias in node.names}
            for name in bound_names(tree):
                self.holds(name not in outer, path, tree, "L15 " + name)

    def test_no_local_hides_a_def_of_its_file(self):
        for path, tree in trees():
            outer = {node.name for node in tree.body if isinstance(node, ast.FunctionDef)}
            for name in bound_names(tree):
                self.holds(name not in outer, path, tree, "L15 " + name)

    def test_every_import_is_used(self):
        for path, tree in trees():
            used = {node.id for node in ast.walk(tree) if isinstance(node, ast.Name)}
            for node in tree.body:
                if isinstance(node, ast.ImportFrom):
                    for alias in node.names:
                        self.holds(alias.name in used, path, node, "unused " + alias.name)

    def test_names_that_are_not_used(self):
        for path, node in nodes(ast.Name):
            self.holds(node.id not in UNUSED, path, node, "L17 L27")
        for path, node in nodes(ast.Attribute):
            self.holds(node.attr not in ("format", "format_map", "mro", "register", "elements", "open", "input"),
                       path, node, "L8 L17")

    def test_methods_and_values_are_apart(self):
        methods, values = methods_and_values()
        self.assertEqual(methods & values, set(), "L18")
        self.assertEqual(values & VALUES_UNUSED, set(), "L26")
        own = set(dir(str)) | set(dir(int)) | set(dir(list)) | set(dir(dict)) | set(dir(set)) | set(dir(bytes))
        self.assertEqual((methods - set(UNDERSCORED)) & own, set(), "L26")
        self.assertEqual(values & own, set(), "L26")

    def test_views_are_walked_at_once(self):
        for path, tree in trees():
            parents = parents_of(tree)
            for node in ast.walk(tree):
                if is_view(node):
                    self.holds(is_walked(node, parents[node]), path, node, "L23")

    def test_what_a_loop_walks_is_not_changed_in_it(self):
        for path, node in nodes(ast.For):
            walked = {ast.dump(part) for part in ast.walk(node.iter) if isinstance(part, (ast.Name, ast.Attribute))}
            for inner in [part for row in node.body for part in ast.walk(row)]:
                if isinstance(inner, ast.Call) and isinstance(inner.func, ast.Attribute):
                    changes = inner.func.attr in ("append", "clear", "extend", "insert", "pop", "remove", "reverse",
                                                  "setdefault", "update")
                    self.holds(not (changes and ast.dump(inner.func.value) in walked), path, inner, "L23")

    def test_sets_are_not_kept(self):
        for path, tree in trees():
            parents = parents_of(tree)
            for node in ast.walk(tree):
                if called(node) in ("set", "frozenset") or isinstance(node, ast.Set):
                    self.holds(is_set_in_place(node, parents), path, node, "L24")

    def test_keywords_at_pythons_own_names(self):
        for path, node in nodes(ast.Call):
            if called(node) in OWN_NAMES:
                for keyword in node.keywords:
                    self.holds(keyword.arg in KEYWORDS.get(called(node), ()), path, node, "L22")

    def test_methods_are_called_where_they_stand(self):
        for path, tree in trees():
            parents = parents_of(tree)
            for node in ast.walk(tree):
                if isinstance(node, ast.Attribute) and node.attr in OWN_METHODS:
                    parent = parents[node]
                    self.holds(isinstance(parent, ast.Call) and parent.func is node, path, node, "L25")

    def test_pythons_errors_are_not_taken(self):
        for path, node in nodes(ast.ExceptHandler):
            names = [part.id for part in ast.walk(node.type) if isinstance(part, ast.Name)]
            for name in names:
                self.holds(name == "KeyError" or name not in dir(builtins), path, node, "L19")

    def test_no_annotations(self):
        for path, node in nodes(ast.arg):
            self.holds(node.annotation is None, path, node, "L21")
        for path, node in nodes(ast.FunctionDef):
            self.holds(node.returns is None, path, node, "L21")

    def test_lists_and_dicts_of_a_files_top_hold_none(self):
        for path, tree in trees():
            for node in tree.body:
                if isinstance(node, ast.Assign):
                    inner = [part for part in ast.walk(node.value) if isinstance(part, (ast.List, ast.Dict))]
                    self.holds(inner in ([], [node.value]), path, node, "L15")
                    self.holds(not [part for part in ast.walk(node.value) if isinstance(part, ast.Call)], path, node, "L3")


if __name__ == "__main__":
    unittest.main()
