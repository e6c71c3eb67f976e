"""The package's files keep to the part of Python that the program is written in."""

import ast
import builtins
import os
import re
import unittest

TOP = os.path.dirname(os.path.dirname(os.path.abspath(__file__)))
PACKAGE = os.path.join(TOP, "fragmentbuilder")

NODES = (
    ast.Module, ast.FunctionDef, ast.ClassDef, ast.arguments, ast.arg, ast.ImportFrom, ast.alias, ast.Assign,
    ast.AugAssign, ast.If, ast.While, ast.For, ast.Return, ast.Break, ast.Continue, ast.Pass, ast.Raise, ast.Try,
    ast.ExceptHandler, ast.Expr, ast.Constant, ast.Name, ast.Attribute, ast.Subscript, ast.Slice, ast.Call,
    ast.BinOp, ast.UnaryOp, ast.BoolOp, ast.Compare, ast.IfExp, ast.List, ast.Tuple, ast.Dict, ast.ListComp,
    ast.comprehension, ast.operator, ast.unaryop, ast.boolop, ast.cmpop, ast.expr_context,
)
BUILT_IN = (
    "len", "range", "enumerate", "zip", "min", "max", "sum", "abs", "sorted", "reversed", "int", "str", "bool",
    "list", "tuple", "dict", "set", "isinstance", "any", "all", "divmod", "Exception", "ValueError", "KeyError",
)
METHODS = (
    "append", "clear", "copy", "count", "extend", "get", "index", "insert", "items", "keys", "pop", "remove",
    "reverse", "setdefault", "update", "values",
)
WORDS = (
    "type", "typing", "typing_extensions", "enum", "Enum", "IntEnum", "StrEnum", "Flag", "IntFlag", "Generic",
    "Protocol", "ABC", "ABCMeta", "namedtuple", "NamedTuple", "TypedDict", "TYPE_CHECKING", "abstractmethod",
)
UNUSED = (
    "register", "mro", "elements", "open", "input", "version_info", "format", "format_map", "breakpoint", "credits",
    "dir", "eval", "exec", "exit", "getattr", "setattr", "hasattr", "globals", "help", "id", "locals", "os", "quit",
    "super", "sys", "type", "vars", "args", "encode",
)


PYTHONS_OWN = [name for name in dir(builtins) if not name.startswith("__")]


def package_files():
    return sorted(name for name in os.listdir(PACKAGE) if name != "__pycache__")


def text_of(name):
    with open(os.path.join(PACKAGE, name), encoding="utf-8") as file:
        return file.read()


def names_in(tree):
    for node in ast.walk(tree):
        if isinstance(node, ast.Name):
            yield node.id
        elif isinstance(node, ast.Attribute):
            yield node.attr
        elif isinstance(node, ast.arg):
            yield node.arg
        elif isinstance(node, (ast.FunctionDef, ast.ClassDef)):
            yield node.name


def is_plain(node, functions):
    """A value that may stand at a file's top: plain ones, and lists, tuples and dicts of these and of functions."""
    if isinstance(node, ast.UnaryOp):
        return isinstance(node.op, ast.USub) and isinstance(node.operand, ast.Constant)
    if isinstance(node, ast.Name):
        return node.id in functions
    if isinstance(node, (ast.List, ast.Tuple)):
        return all(is_plain(one, functions) for one in node.elts)
    if isinstance(node, ast.Dict):
        return all(is_plain(one, functions) for one in node.keys + node.values)
    return isinstance(node, ast.Constant)


def imports_of(tree):
    return [alias.name for node in tree.body if isinstance(node, ast.ImportFrom) for alias in node.names]


def defined_in(tree, kind):
    return [node.name for node in tree.body if isinstance(node, kind)]


def bound_within(tree):
    """Parameters and locals of all functions."""
    for top in tree.body:
        if isinstance(top, (ast.FunctionDef, ast.ClassDef)):
            for node in ast.walk(top):
                if isinstance(node, ast.arg):
                    yield node.arg
                elif isinstance(node, ast.Name) and isinstance(node.ctx, ast.Store):
                    yield node.id


class Language(unittest.TestCase):
    def trees(self):
        return [(name, ast.parse(text_of(name))) for name in package_files()]

    def test_files(self):
        self.assertIn("__init__.py", package_files())
        for name in package_files():
            self.assertRegex(name, r"^(__init__|[a-z][a-z0-9_]*)\.py$")
            self.assertNotIn(name[:-3], PYTHONS_OWN)

    def test_size_and_signs(self):
        for name in package_files():
            text = text_of(name)
            self.assertRegex(text, r"^[ -~\n]*$", name)
            lines = text.split("\n")
            self.assertLessEqual(len(lines), 400, name)
            self.assertLessEqual(max(len(line) for line in lines), 120, name)
            for node in ast.walk(ast.parse(text)):
                if isinstance(node, ast.FunctionDef):
                    self.assertLessEqual(node.end_lineno - node.lineno + 1, 40, node.name)

    def test_words(self):
        for name in package_files():
            found = re.findall(r"[A-Za-z0-9_]+", text_of(name))
            self.assertEqual([word for word in found if word in WORDS], [], name)

    def test_nodes(self):
        for name, tree in self.trees():
            for node in ast.walk(tree):
                self.assertIsInstance(node, NODES, f"{name} {getattr(node, 'lineno', 0)}")
                if isinstance(node, (ast.For, ast.While)):
                    self.assertEqual(node.orelse, [])
                if isinstance(node, ast.Assign):
                    self.assertEqual(len(node.targets), 1)
                if isinstance(node, (ast.Div, ast.MatMult, ast.Is, ast.IsNot)):
                    self.fail(name)
                if isinstance(node, ast.Constant):
                    self.assertIn(type(node.value), (int, str, bool, type(None)))
                if isinstance(node, (ast.FunctionDef, ast.ClassDef)):
                    self.assertEqual(node.decorator_list, [])

    def test_names(self):
        for name, tree in self.trees():
            for word in names_in(tree):
                self.assertRegex(word, r"^([A-Za-z][A-Za-z0-9_]*|__init__)$", name)
                self.assertNotIn(word, UNUSED, name)
                if word in PYTHONS_OWN:
                    self.assertIn(word, BUILT_IN, name)

    def test_imports(self):
        for name, tree in self.trees():
            for node in ast.walk(tree):
                if isinstance(node, ast.ImportFrom):
                    self.assertEqual(node.level, 0)
                    self.assertTrue(node.module.startswith("fragmentbuilder."), node.module)
                    source = ast.parse(text_of(node.module.split(".")[1] + ".py"))
                    defined = [one.name for one in source.body if isinstance(one, (ast.FunctionDef, ast.ClassDef))]
                    defined += [one.targets[0].id for one in source.body if isinstance(one, ast.Assign)]
                    for alias in node.names:
                        self.assertIn(alias.name, defined, name)

    def test_no_two_files_draw_from_one_another(self):
        draws = {}
        for name, tree in self.trees():
            draws[name[:-3]] = [node.module.split(".")[1] for node in tree.body if isinstance(node, ast.ImportFrom)]
        self.assertEqual(draws["__init__"], [])
        while draws:
            ends = [name for name in draws if not [other for other in draws[name] if other in draws]]
            self.assertNotEqual(ends, [], draws)
            draws = {name: draws[name] for name in draws if name not in ends}

    def test_no_name_is_a_method_and_a_value(self):
        methods = set()
        values = set()
        for name, tree in self.trees():
            for node in ast.walk(tree):
                if isinstance(node, ast.ClassDef):
                    methods |= {one.name for one in node.body if isinstance(one, ast.FunctionDef)}
                if isinstance(node, ast.Attribute) and isinstance(node.ctx, ast.Store):
                    values.add(node.attr)
        self.assertEqual(methods & values, set())
        own = {one for kind in (str, int, list, dict, set, bytes) for one in dir(kind)} - {"__init__"}
        self.assertEqual((methods | values) & own, set())

    def test_methods_of_pythons_own_values(self):
        own = {one for kind in (str, int, list, dict, set, bytes) for one in dir(kind)}
        for name, tree in self.trees():
            for node in ast.walk(tree):
                if isinstance(node, ast.Attribute) and node.attr in own:
                    self.assertIn(node.attr, METHODS, name)

    def test_the_top_of_a_file(self):
        for name, tree in self.trees():
            functions = []
            self.assertIsInstance(ast.get_docstring(tree), str, name)
            for node in tree.body[1:]:
                if isinstance(node, ast.FunctionDef):
                    functions.append(node.name)
                elif isinstance(node, ast.Assign):
                    self.assertIsInstance(node.targets[0], ast.Name, name)
                    self.assertTrue(is_plain(node.value, functions), (name, node.lineno))
                    if isinstance(node.value, (ast.List, ast.Dict)):
                        nested = [one for one in ast.walk(node.value) if isinstance(one, (ast.List, ast.Dict))]
                        self.assertEqual(len(nested), 1, (name, node.lineno))
                else:
                    self.assertIsInstance(node, (ast.ImportFrom, ast.ClassDef), (name, node.lineno))

    def test_each_name_is_bound_once_at_the_top(self):
        for name, tree in self.trees():
            bound = imports_of(tree) + defined_in(tree, (ast.FunctionDef, ast.ClassDef))
            bound += [node.targets[0].id for node in tree.body if isinstance(node, ast.Assign)]
            self.assertEqual(len(bound), len(set(bound)), name)

    def test_parameters_and_locals(self):
        for name, tree in self.trees():
            taken = imports_of(tree) + defined_in(tree, ast.ClassDef) + PYTHONS_OWN
            taken += [node.targets[0].id for node in tree.body if isinstance(node, ast.Assign)]
            self.assertEqual([one for one in bound_within(tree) if one in taken], [], name)

    def test_lists_and_dicts_of_the_top_are_only_read(self):
        for name, tree in self.trees():
            kept = [node.targets[0].id for node in tree.body
                    if isinstance(node, ast.Assign) and isinstance(node.value, (ast.List, ast.Dict))]
            allowed = set()
            for node in ast.walk(tree):
                if isinstance(node, ast.Subscript) and isinstance(node.ctx, ast.Load):
                    allowed.add(node.value)
                elif isinstance(node, ast.Compare):
                    allowed.update(node.comparators)
                elif isinstance(node, ast.Attribute) and node.attr == "get":
                    allowed.add(node.value)
            for node in ast.walk(tree):
                if isinstance(node, ast.Name) and isinstance(node.ctx, ast.Load) and node.id in kept:
                    self.assertIn(node, allowed, (name, node.lineno))

    def test_functions_and_classes(self):
        for name, tree in self.trees():
            for node in ast.walk(tree):
                if isinstance(node, ast.FunctionDef):
                    given = node.args
                    other = [given.vararg, given.kwarg] + given.kwonlyargs + given.posonlyargs
                    self.assertEqual(other, [None, None], (name, node.lineno))
                    self.assertIsNone(node.returns)
                    self.assertEqual([one for one in given.args if one.annotation], [])
                if isinstance(node, ast.ClassDef):
                    self.assertIn(node, tree.body)
                    self.assertLessEqual(len(node.bases), 1)
                    for one in node.body:
                        self.assertIsInstance(one, (ast.FunctionDef, ast.Pass), (name, one.lineno))

    def test_walked_at_once(self):
        for name, tree in self.trees():
            walked = set()
            for node in ast.walk(tree):
                if isinstance(node, (ast.For, ast.comprehension)):
                    walked.add(node.iter)
                elif isinstance(node, ast.Call) and isinstance(node.func, ast.Name) and node.args:
                    if node.func.id in ("list", "tuple", "dict", "sorted", "sum", "any", "all", "enumerate", "zip"):
                        walked.add(node.args[0])
            for node in ast.walk(tree):
                if isinstance(node, ast.Call):
                    called = getattr(node.func, "id", getattr(node.func, "attr", ""))
                    if called in ("zip", "enumerate", "reversed", "range", "items", "keys", "values"):
                        self.assertIn(node, walked, (name, node.lineno))

    def test_errors(self):
        for name, tree in self.trees():
            for node in ast.walk(tree):
                if isinstance(node, ast.ExceptHandler):
                    self.assertEqual(node.type.id, "PowerGone", (name, node.lineno))
                if isinstance(node, ast.Try):
                    self.assertEqual(node.finalbody, [], (name, node.lineno))
                if isinstance(node, ast.Raise):
                    self.assertIsInstance(node.exc, ast.Call, (name, node.lineno))

    def test_texts_and_powers(self):
        for name, tree in self.trees():
            for node in ast.walk(tree):
                self.assertNotIsInstance(node, ast.Pow, name)
                if isinstance(node, ast.Constant) and isinstance(node.value, str):
                    self.assertNotIn("%", node.value, name)
