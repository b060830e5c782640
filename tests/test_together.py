"""Tests that what a schema tells in several ways agrees ([2], [4], [5], [6])."""

import itertools
import unittest

from maskwrites.errors import BadPath
from maskwrites.schemas import Schema, is_kind
from tests.anyvalues import any_values, schema_example

VALUES = {
    ("text",): "ab", ("number",): 1, ("flag",): False,
    ("map", "text"): {"k": ""}, ("map", "number"): {"k": 0}, ("map", "flag"): {"k": True},
}


def schemas():
    """Return schemas of several shapes."""
    simple = [("text",), ("number",), ("flag",), ("map", "text"), ("map", "number"), ("map", "flag")]
    told = [Schema(*schema_example()), Schema({"top": {}}), Schema({"top": dict(zip("abcdef", simple))})]
    for kinds in itertools.product([("number",), ("map", "flag"), ("message", "m"), ("message", "n")], repeat=2):
        messages = {
            "top": {"a": kinds[0], "b": kinds[1], "m": ("message", "m")},
            "m": {"a": ("text",), "b": ("message", "n"), "k": ("map", "text")},
            "n": {"a": ("map", "number"), "b": ("number",), "k": ("flag",)},
        }
        for choices in (None, {"top": [("a", "b")]}, {"m": [("a", "b", "k")], "n": [("a", "k")]}):
            told.append(Schema(messages, choices))
    return told


def paths_by_fields(schema, above=()):
    """Return all paths to fields, as fields and kind_at tell of them."""
    paths = []
    for field in schema.fields(above):
        path = above + (field,)
        paths.append(path)
        if schema.kind_at(path)[0] == "message":
            paths.extend(paths_by_fields(schema, path))
    return paths


def rows_of_names(names, most):
    return [row for many in range(most + 1) for row in itertools.product(names, repeat=many)]


class TogetherTest(unittest.TestCase):
    def check_raises(self, call, path, bad):
        if bad:
            with self.assertRaises(BadPath) as caught:
                call(path)
            self.assertIs(caught.exception.value, path)
        else:
            call(path)

    def test_what_is_a_path_for_each(self):
        for schema in schemas():
            known = paths_by_fields(schema)
            self.assertEqual(known, sorted(known))
            self.assertEqual(len(set(known)), len(known))
            for path in rows_of_names(("a", "b", "m", "k"), 4) + any_values():
                good = schema.is_path(path)
                if not good:
                    self.assertNotIn(path, known)
                elif path not in known:
                    self.assertIn(path[:-1], known)
                    self.assertEqual(schema.kind_at(path[:-1]), ("map", schema.kind_at(path)[0]))
                self.check_raises(schema.kind_at, path, not good)
                self.check_raises(schema.mates, path, not good)
                self.check_raises(lambda row: schema.is_value(row, None), path, not good)
                message = path == () or good and schema.kind_at(path)[0] == "message"
                self.check_raises(schema.fields, path, not message)

    def test_kinds_are_those_of_the_messages(self):
        for schema in schemas():
            messages = schema.messages
            self.assertEqual(schema.fields(()), sorted(messages["top"]))
            for path in paths_by_fields(schema):
                above = schema.kind_at(path[:-1])[1] if len(path) > 1 else "top"
                self.assertEqual(schema.kind_at(path), messages[above][path[-1]])
                self.assertIs(is_kind(schema.kind_at(path)), True)
                self.assertIn(path[-1], schema.fields(path[:-1]))

    def test_mates_are_those_of_the_choices(self):
        for schema in schemas():
            for path in paths_by_fields(schema):
                above = schema.kind_at(path[:-1])[1] if len(path) > 1 else "top"
                chosen = [choice for choice in schema.choices.get(above, []) if path[-1] in choice]
                told = [path[:-1] + (field,) for choice in chosen for field in choice if field != path[-1]]
                self.assertEqual(schema.mates(path), told)
                self.assertEqual(schema.mates(path), sorted(schema.mates(path)))
                for mate in schema.mates(path):
                    self.assertIs(schema.is_path(mate), True)
                    self.assertIn(path, schema.mates(mate))

    def test_values_are_those_of_the_kinds(self):
        for schema in schemas():
            for path in paths_by_fields(schema):
                kind = schema.kind_at(path)
                for other, value in VALUES.items():
                    if kind[0] != "message":
                        self.assertIs(schema.is_value(path, value), kind == other, (path, value))
                self.assertIs(schema.is_value(path, {}), kind[0] == "message")
                if kind[0] == "map":
                    for word in ("text", "number", "flag"):
                        value = VALUES[(word,)]
                        self.assertIs(schema.is_value(path + ("k",), value), kind[1] == word)
                        self.assertIs(schema.is_value(path, {"k": value, "l": value}), kind[1] == word)

    def test_values_of_messages_are_those_of_their_fields(self):
        for schema in schemas():
            for path in paths_by_fields(schema):
                if schema.kind_at(path)[0] == "message":
                    self.check_message(schema, path)

    def check_message(self, schema, path):
        values = list(VALUES.values()) + [{}, None, {"k": None}]
        for field in schema.fields(path) + ["none"]:
            there = field != "none"
            for value in values:
                good = there and schema.is_value(path + (field,), value)
                self.assertIs(schema.is_value(path, {field: value}), good)
        for first, second in itertools.permutations(schema.fields(path), 2):
            value = {field: self.value_at(schema, path + (field,)) for field in (first, second)}
            mates = path + (second,) in schema.mates(path + (first,))
            self.assertIs(schema.is_value(path, value), not mates)

    def value_at(self, schema, path):
        return VALUES.get(schema.kind_at(path), {})

    def test_a_schema_of_its_own_messages_and_choices_is_equal(self):
        for schema in schemas():
            again = Schema(schema.messages, schema.choices)
            self.assertTrue(schema == again)
            self.assertEqual(paths_by_fields(schema), paths_by_fields(again))

    def test_what_is_asked_changes_nothing(self):
        for schema in schemas():
            told = (schema.messages, schema.choices, paths_by_fields(schema))
            for path in rows_of_names(("a", "m", "k"), 3):
                if schema.is_path(path):
                    schema.mates(path).append(None)
                    schema.is_value(path, {"a": 1})
                    if schema.kind_at(path)[0] == "message":
                        schema.fields(path).clear()
            self.assertEqual((schema.messages, schema.choices, paths_by_fields(schema)), told)


if __name__ == "__main__":
    unittest.main()
