"""Tests that the package keeps to its small part of the language, as far as a tree of the code shows it."""

import ast
import builtins
import unittest

from tests.test_form import PACKAGE, trees

NODES = (
    ast.Module, ast.Expr, ast.Constant, ast.ImportFrom, ast.alias, ast.FunctionDef, ast.ClassDef, ast.arguments, ast.arg,
    ast.Assign, ast.AugAssign, ast.Return, ast.If, ast.For, ast.While, ast.Raise, ast.Delete, ast.Break, ast.Name,
    ast.Attribute, ast.Subscript, ast.Slice, ast.Call, ast.Compare, ast.BoolOp, ast.UnaryOp, ast.BinOp, ast.IfExp,
    ast.Tuple, ast.List, ast.Dict, ast.ListComp, ast.DictComp, ast.comprehension, ast.expr_context, ast.boolop,
    ast.operator, ast.unaryop, ast.cmpop, ast.Pass, ast.Continue, ast.Try, ast.ExceptHandler,
)
DOUBLE = (
    "__init__", "__eq__", "__len__", "__call__", "__iter__", "__lt__", "__add__", "__and__", "__or__", "__ior__",
    "__contains__", "__getitem__", "__setitem__",
)
METHODS = (
    "append", "count", "extend", "get", "index", "items", "join", "pop", "rstrip", "setdefault", "split", "values",
)
WORDS = (
    "type", "typing", "enum", "Enum", "Flag", "Generic", "Protocol", "ABC", "namedtuple", "overload", "dataclass",
)
BARRED_NAMES = (
    "register", "mro", "elements", "open", "input", "law", "version_info", "with_traceback", "add_note", "items", "keys",
    "args", "encode", "decode", "hex", "format", "sort", "update", "append", "clear", "extend", "insert", "remove",
)
BARRED_BEGINNINGS = ("_wall", "_pe_", "_dcw_", "_enum_", "_cm_", "_twin_re_", "_lay_", "_law_", "_stub_", "_sre")
BARRED_ALONE = ("_cold", "_tuplegetter", "_outside", "_record", "_written_out", "_member_names")


def functions_of(tree):
    return [node for node in ast.walk(tree) if isinstance(node, ast.FunctionDef)]


def stored_names(node):
    names = {inner.arg for inner in ast.walk(node) if isinstance(inner, ast.arg)}
    return names | {inner.id for inner in ast.walk(node) if isinstance(inner, ast.Name) and isinstance(inner.ctx, ast.Store)}


def is_plain(node):
    """Tell whether code plainly gives a number or a string."""
    if isinstance(node, ast.BinOp):
        return is_plain(node.left) or is_plain(node.right)
    if isinstance(node, ast.Constant):
        return True
    if isinstance(node, ast.ListComp):
        return is_plain(node.elt)
    return isinstance(node, ast.Call) and isinstance(node.func, ast.Name) and node.func.id in ("str", "int", "len")


class LanguageTest(unittest.TestCase):
    def test_plain_parts_alone(self):
        for path, tree in trees().items():
            for node in ast.walk(tree):
                self.assertIsInstance(node, NODES, (path, getattr(node, "lineno", 0)))
                if isinstance(node, ast.BinOp):
                    self.assertNotIsInstance(node.op, (ast.Div, ast.Mod, ast.Pow, ast.MatMult), path)
                if isinstance(node, ast.Constant):
                    self.assertNotIsInstance(node.value, (float, complex), path)

    def test_is_with_none_true_and_false_alone(self):
        for path, tree in trees().items():
            for node in ast.walk(tree):
                if isinstance(node, ast.Compare):
                    for sign, right in zip(node.ops, node.comparators):
                        if isinstance(sign, (ast.Is, ast.IsNot)):
                            self.assertIsInstance(right, ast.Constant, (path, node.lineno))
                            self.assertIn(right.value, (None, True, False))

    def test_what_is_sorted_is_plain(self):
        for path, tree in trees().items():
            for node in ast.walk(tree):
                if isinstance(node, ast.Call) and isinstance(node.func, ast.Name):
                    if node.func.id == "sorted":
                        self.assertIsInstance(node.args[0], ast.ListComp, (path, node.lineno))
                        self.assertTrue(is_plain(node.args[0].elt), (path, node.lineno))
                    elif node.func.id in ("min", "max"):
                        self.assertTrue(any(is_plain(part) for part in node.args), (path, node.lineno))
                    if node.func.id in dir(builtins):
                        self.assertEqual(node.keywords, [], (path, node.lineno))

    def test_names(self):
        known = set(dir(builtins))
        for path, tree in trees().items():
            imported = {alias.name for node in ast.walk(tree) if isinstance(node, ast.ImportFrom) for alias in node.names}
            classes = {node.name for node in tree.body if isinstance(node, ast.ClassDef)}
            top = {node.name for node in tree.body if isinstance(node, (ast.FunctionDef, ast.ClassDef))}
            self.assertEqual(top & known, set(), path)
            self.assertEqual(top & imported, set(), path)
            for function in functions_of(tree):
                stored = stored_names(function)
                self.assertEqual(stored & (imported | classes), set(), (path, function.name))
                self.assertEqual(stored & known, set(), (path, function.name))
                self.check_name(function.name, path)
                for name in stored:
                    self.check_name(name, path)

    def check_name(self, name, path):
        self.assertNotIn(name, BARRED_ALONE, path)
        self.assertFalse(name.startswith(BARRED_BEGINNINGS), (path, name))
        if name.startswith("__"):
            self.assertIn(name, DOUBLE, path)

    def test_attributes_and_methods_have_unlike_names(self):
        attributes, methods = {}, {}
        for path, tree in trees().items():
            for node in ast.walk(tree):
                if isinstance(node, ast.ClassDef):
                    methods.update({part.name: path for part in node.body if isinstance(part, ast.FunctionDef)})
                elif isinstance(node, ast.Attribute) and isinstance(node.ctx, ast.Store):
                    attributes[node.attr] = path
        self.assertEqual(set(attributes) & set(methods), set())
        for name in attributes:
            self.assertNotIn(name, BARRED_NAMES)
            self.assertFalse(any(hasattr(kind, name) for kind in (str, int, list, dict, set, bytes)), name)

    def test_calls_of_methods(self):
        own = {
            part.name for tree in trees().values() for node in ast.walk(tree) if isinstance(node, ast.ClassDef)
            for part in node.body if isinstance(part, ast.FunctionDef)
        }
        for path, tree in trees().items():
            for node in ast.walk(tree):
                if isinstance(node, ast.Call) and isinstance(node.func, ast.Attribute):
                    # A program is called as it stands in an attribute.
                    known = node.func.attr in METHODS or node.func.attr in own or node.func.attr == "_program"
                    self.assertTrue(known, (path, node.func.attr))
                    self.assertFalse(node.func.attr.startswith("__"), path)
                    if node.func.attr not in own:
                        self.assertEqual(node.keywords, [], path)

    def test_any_and_all_take_lists(self):
        for path, tree in trees().items():
            for node in ast.walk(tree):
                if isinstance(node, ast.Call) and isinstance(node.func, ast.Name) and node.func.id in ("any", "all"):
                    self.assertIsInstance(node.args[0], (ast.ListComp, ast.List, ast.Name), (path, node.lineno))

    def test_decorators_and_defaults(self):
        for path, tree in trees().items():
            for node in ast.walk(tree):
                if isinstance(node, ast.FunctionDef):
                    for decorator in node.decorator_list:
                        self.assertEqual(ast.unparse(decorator), "property", path)
                    for default in node.args.defaults:
                        self.assertIn(ast.unparse(default), ("None", "()", "1"), path)
                    self.assertIsNone(node.returns, path)
                if isinstance(node, ast.arg):
                    self.assertIsNone(node.annotation, path)
                if isinstance(node, ast.ClassDef):
                    self.assertEqual(node.decorator_list, [], path)

    def test_strings(self):
        for path, tree in trees().items():
            docstrings = {
                id(node.body[0].value) for node in ast.walk(tree)
                if isinstance(node, (ast.Module, ast.FunctionDef, ast.ClassDef)) and isinstance(node.body[0], ast.Expr)
            }
            for node in ast.walk(tree):
                if isinstance(node, ast.Constant) and isinstance(node.value, str) and id(node) not in docstrings:
                    for word in node.value.split():
                        self.assertNotIn(word, WORDS, path)
                    self.assertNotIn("%", node.value, path)
                    self.assertNotIn("__", node.value, path)

    def test_what_is_iterated_is_so_at_once(self):
        for path, tree in trees().items():
            right = set()
            for node in ast.walk(tree):
                if isinstance(node, (ast.For, ast.comprehension)):
                    right.add(node.iter)
                elif isinstance(node, ast.Assign):
                    right.add(node.value)
                elif isinstance(node, ast.Call) and isinstance(node.func, ast.Name):
                    if node.func.id in ("list", "tuple", "dict", "enumerate", "zip"):
                        right.update(node.args[:1])
            for node in ast.walk(tree):
                if isinstance(node, ast.Call):
                    name = node.func.id if isinstance(node.func, ast.Name) else getattr(node.func, "attr", "")
                    if name in ("range", "zip", "enumerate", "reversed", "items", "keys", "values"):
                        self.assertIn(node, right, (path, node.lineno))

    def test_own_errors_alone_are_caught(self):
        own = {node.name for node in trees()[PACKAGE / "errors.py"].body if isinstance(node, ast.ClassDef)}
        for path, tree in trees().items():
            for node in ast.walk(tree):
                if isinstance(node, ast.ExceptHandler):
                    self.assertIn(node.type.id, own, path)
                elif isinstance(node, ast.Try):
                    self.assertEqual((node.orelse, node.finalbody), ([], []), path)
                elif isinstance(node, ast.Raise):
                    self.assertIn(node.exc.func.id, own | {"TypeError"}, path)

    def test_docstrings(self):
        for path, tree in trees().items():
            for node in ast.walk(tree):
                if isinstance(node, ast.FunctionDef) and not node.name.startswith("__"):
                    self.assertIsNotNone(ast.get_docstring(node), (path, node.name))


if __name__ == "__main__":
    unittest.main()
