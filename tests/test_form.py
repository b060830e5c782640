"""Tests of the form of the package: its files, their sizes and imports, and the interface's names."""

import ast
import inspect
import pathlib
import re
import unittest

from maskwrites import (
    alike, changes, clients, console, errors, guards, masks, names, orders, others, papers, programs, schemas, stores,
    tables, texts, undo,
)

PACKAGE = pathlib.Path(__file__).resolve().parent.parent / "maskwrites"

MODULES = (
    alike, changes, clients, console, errors, guards, masks, names, orders, others, papers, programs, schemas, stores,
    tables, texts, undo,
)
FUNCTIONS = {
    "names": {name: ["value"] for name in ("is_name", "is_text", "is_number", "is_flag", "value_key")},
    "schemas": {"is_kind": ["value"]},
    "programs": {"is_test": ["schema", "value"], "is_step": ["schema", "value"], "holds": ["test", "paper"]},
    "tables": {
        "table": ["program"], "is_table": ["program", "value"], "row_for": ["table", "paper"],
        "made_by": ["table", "paper"],
    },
    "alike": {"first_unlike": ["first", "second"], "are_alike": ["first", "second"]},
    "changes": {"changed": ["program"], "first_outside": ["program", "mask"], "first_changed": ["program"]},
    "clients": {"first_unfaithful": ["client"]},
    "others": {
        "is_later": ["paper", "rights", "later"], "first_lost": ["client", "rights"], "need_safe": ["client", "rights"],
    },
    "guards": {"first_slipped": ["client", "rights", "guard"], "least_guards": ["client", "rights", "paths"]},
    "undo": {"first_muddled": ["program", "mask"], "least_kept": ["program", "paths"]},
    "texts": {
        "path_text": ["path"], "value_text": ["schema", "path", "value"], "step_text": ["schema", "step"],
        "program_text": ["program"], "mask_text": ["mask"], "read_path": ["text"], "read_program": ["schema", "text"],
        "read_mask": ["text"],
    },
    "orders": {"first_parted": ["first", "second"], "first_unsteady": ["program"], "spare_steps": ["program"]},
}
METHODS = {
    schemas.Schema: {
        "__init__": ["self", "messages", "choices"], "__eq__": ["self", "other"], "kind_at": ["self", "path"],
        "is_path": ["self", "value"], "fields": ["self", "path"], "mates": ["self", "path"],
        "is_value": ["self", "path", "value"],
    },
    masks.Mask: {
        "__init__": ["self", "paths"], "__len__": ["self"], "__contains__": ["self", "path"],
        "__and__": ["self", "other"], "__or__": ["self", "other"], "within": ["self", "other"],
        "__eq__": ["self", "other"],
    },
    papers.Paper: {
        "__init__": ["self", "schema", "content"], "__getitem__": ["self", "path"], "__contains__": ["self", "path"],
        "__setitem__": ["self", "path", "value"], "clear": ["self", "path"], "parts": ["self"], "__len__": ["self"],
        "copy": ["self"], "__eq__": ["self", "other"], "__lt__": ["self", "other"], "__ior__": ["self", "other"],
        "only": ["self", "mask"], "outside": ["self", "mask"],
    },
    programs.Program: {
        "__init__": ["self", "schema", "steps"], "__call__": ["self", "paper"], "__add__": ["self", "other"],
        "__eq__": ["self", "other"],
    },
    clients.Client: {
        "__init__": ["self", "schema", "reads", "program", "writes"], "read": ["self", "paper"],
        "result": ["self", "paper"], "written": ["self", "paper", "later"], "alone": ["self", "paper"],
    },
    stores.Store: {
        "__init__": ["self", "schema", "content"], "paper": ["self"], "begin": ["self", "client", "guard"],
        "finish": ["self", "number"], "run": ["self", "program"], "begun": ["self"], "history": ["self"],
        "undo": ["self", "many"],
    },
    console.Console: {"__init__": ["self", "schema"], "__call__": ["self", "command"]},
}
PROPERTIES = {
    schemas.Schema: ("messages", "choices"), masks.Mask: ("paths",), papers.Paper: ("schema", "content"),
    programs.Program: ("schema", "steps"), clients.Client: ("schema", "reads", "program", "writes"),
}


def sources():
    return {path: path.read_text(encoding="utf-8") for path in sorted(PACKAGE.rglob("*.py"))}


def trees():
    return {path: ast.parse(text) for path, text in sources().items()}


class FormTest(unittest.TestCase):
    def test_the_folder_holds_plain_files_alone(self):
        for path in PACKAGE.rglob("*"):
            if "__pycache__" not in path.parts:
                self.assertRegex(path.name, r"^(__init__|[a-z][a-z0-9_]*)\.py$")

    def test_sizes(self):
        for path, text in sources().items():
            lines = text.splitlines()
            self.assertLessEqual(len(lines), 399, path)
            for line in lines:
                self.assertLessEqual(len(line), 120, path)
        for path, tree in trees().items():
            for node in ast.walk(tree):
                if isinstance(node, ast.FunctionDef):
                    self.assertLessEqual(node.end_lineno - node.lineno + 1, 40, (path, node.name))

    def test_characters(self):
        for path, text in sources().items():
            self.assertEqual(re.sub(r"[ -~\n]", "", text), "", path)
            self.assertTrue(text.endswith("\n"), path)

    def test_module_level(self):
        allowed = (ast.ImportFrom, ast.FunctionDef, ast.ClassDef, ast.Assign, ast.Expr)
        for path, tree in trees().items():
            for node in tree.body:
                self.assertIsInstance(node, allowed, path)
            self.assertIsNotNone(ast.get_docstring(tree), path)

    def test_imports_name_the_defining_file_of_the_package(self):
        above = {}
        for path, tree in trees().items():
            above[path.stem] = []
            for node in ast.walk(tree):
                self.assertNotIsInstance(node, ast.Import, path)
                if isinstance(node, ast.ImportFrom):
                    self.assertRegex(node.module, r"^maskwrites\.[a-z]+$")
                    stem = node.module.split(".")[1]
                    above[path.stem].append(stem)
                    self.assertLessEqual({alias.name for alias in node.names}, self.defined_in(stem))
        self.check_no_ring(above)

    def defined_in(self, stem):
        names_there = set()
        for part in ast.parse((PACKAGE / (stem + ".py")).read_text()).body:
            if isinstance(part, (ast.FunctionDef, ast.ClassDef)):
                names_there.add(part.name)
            elif isinstance(part, ast.Assign):
                names_there.update(target.id for target in part.targets)
        return names_there

    def check_no_ring(self, above):
        while above:
            free = [stem for stem in above if not set(above[stem]) & set(above)]
            self.assertNotEqual(free, [], above)
            for stem in free:
                del above[stem]

    def test_builtins_are_the_few(self):
        allowed = set((
            "abs all any bool classmethod dict divmod enumerate int isinstance iter len list map max min next ord "
            "property range repr reversed set sorted staticmethod str sum super tuple type zip IndexError KeyError "
            "LookupError NotImplemented TypeError ValueError"
        ).split())
        every = set(vars(__builtins__) if not isinstance(__builtins__, dict) else __builtins__)
        for path, tree in trees().items():
            for node in ast.walk(tree):
                if isinstance(node, ast.Name) and node.id in every:
                    self.assertIn(node.id, allowed, path)

    def test_functions_of_the_interface(self):
        for module in MODULES:
            for name, told in FUNCTIONS.get(module.__name__.split(".")[1], {}).items():
                function = getattr(module, name)
                self.assertEqual(function.__module__, module.__name__)
                self.assertEqual(list(inspect.signature(function).parameters), told)

    def test_methods_of_the_interface_stand_in_the_class(self):
        for kind, rows in METHODS.items():
            for name, told in rows.items():
                method = vars(kind)[name]
                self.assertEqual(list(inspect.signature(method).parameters), told)
        for kind, rows in PROPERTIES.items():
            for name in rows:
                self.assertIsInstance(vars(kind)[name], property)


if __name__ == "__main__":
    unittest.main()
