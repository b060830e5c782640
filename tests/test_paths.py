"""Tests of is_path, kind_at, fields and mates ([6])."""

import unittest

from maskwrites.errors import BadPath
from maskwrites.schemas import Schema
from tests.anyvalues import any_values, nested, schema_example

PATHS = {
    ("w",): ("text",), ("x",): ("number",), ("y",): ("number",), ("f",): ("flag",),
    ("m",): ("message", "m"), ("t",): ("map", "text"), ("t", "k"): ("text",), ("t", "x"): ("text",),
    ("t", "abcdefgh"): ("text",), ("m", "a"): ("number",), ("m", "b"): ("flag",), ("m", "g"): ("map", "flag"),
    ("m", "g", "a"): ("flag",), ("m", "e"): ("message", "empty"), ("m", "n"): ("message", "inner"),
    ("m", "n", "c"): ("map", "number"), ("m", "n", "c", "top"): ("number",), ("m", "n", "d"): ("text",),
    ("m", "n", "t"): ("number",),
}

NO_PATHS = [
    (), ("z",), ("top",), ("m", "m"), ("m", "z"), ("inner",), ("n",), ("a",), ("x", "x"), ("w", "a"), ("f", "a"),
    ("t", "k", "k"), ("t", "abcdefghi"), ("t", ""), ("t", "K"), ("t", 1), ("t", None), ("t", ["k"]), ("t", {}),
    ("t", ("k",)), ("m", "e", "a"), ("m", "a", "a"), ("m", "g", "a", "a"), ("m", "n", "t", "k"), ("m", ["n"], "t"),
    ("m", "n", "c", "k", "k"), ("empty",), ("m", "empty"), ["x"], ["m", "a"], "x", "t", {"x": 1}, {"m": "a"},
    {("x",): 1}, (("x",),), (["x"],), ([],), ({},), 0, True, None, ("x", ""), ("", "x"), ("m", True),
    nested(lambda value: (value,)), nested(lambda value: ("t", value)), nested(lambda value: ("m", value)),
    nested(lambda value: [value]), ("m",) * 100, ("t",) * 100, ("t",) + ("k",) * 50,
]


class PathTestCase(unittest.TestCase):
    def setUp(self):
        self.schema = Schema(*schema_example())

    def check_bad_path(self, call, path):
        with self.assertRaises(BadPath) as caught:
            call(path)
        self.assertIs(caught.exception.value, path)


class PathTest(PathTestCase):
    def test_is_path(self):
        for path in PATHS:
            self.assertIs(self.schema.is_path(path), True, path)
        for value in NO_PATHS:
            self.assertIs(self.schema.is_path(value), False)
        for value in any_values():
            # This is the only path among these.
            self.assertIs(self.schema.is_path(value), value == ("x",))

    def test_kind_at(self):
        for path, kind in PATHS.items():
            self.assertEqual(self.schema.kind_at(path), kind, path)
            self.assertIs(type(self.schema.kind_at(path)), tuple)

    def test_bad_path_with_the_very_value(self):
        wrong = NO_PATHS + [value for value in any_values() if value != ("x",)]
        for value in wrong:
            for call in (self.schema.kind_at, self.schema.mates, lambda path: self.schema.is_value(path, 1)):
                self.check_bad_path(call, value)
            if value != ():
                self.check_bad_path(self.schema.fields, value)

    def test_maps_of_each_kind(self):
        top = {word: ("map", word) for word in ("text", "number", "flag")}
        schema = Schema({"top": top})
        for word in top:
            self.assertEqual(schema.kind_at((word,)), ("map", word))
            self.assertEqual(schema.kind_at((word, "k")), (word,))

    def test_a_message_in_two_fields(self):
        schema = Schema({"top": {"a": ("message", "m"), "b": ("message", "m")}, "m": {"x": ("text",)}})
        self.assertTrue(schema.is_path(("a", "x")))
        self.assertTrue(schema.is_path(("b", "x")))
        self.assertFalse(schema.is_path(("m", "x")))

    def test_a_message_that_is_not_reached_has_no_path(self):
        schema = Schema({"top": {"x": ("text",)}, "m": {"a": ("text",), "t": ("message", "top")}})
        for path in (("a",), ("m",), ("m", "a"), ("t",), ("t", "x")):
            self.assertIs(schema.is_path(path), False)

    def test_a_schema_without_fields(self):
        schema = Schema({"top": {}})
        self.assertEqual(schema.fields(()), [])
        for value in any_values():
            self.assertIs(schema.is_path(value), False)

    def test_arguments_by_name(self):
        self.assertIs(self.schema.is_path(value=("x",)), True)
        self.assertEqual(self.schema.kind_at(path=("x",)), ("number",))
        self.assertEqual(self.schema.fields(path=("m", "e")), [])
        self.assertEqual(self.schema.mates(path=("x",)), [("y",)])


class FieldsTest(PathTestCase):
    def test_fields(self):
        self.assertEqual(self.schema.fields(()), ["f", "m", "t", "w", "x", "y"])
        self.assertEqual(self.schema.fields(("m",)), ["a", "b", "e", "g", "n"])
        self.assertEqual(self.schema.fields(("m", "n")), ["c", "d", "t"])
        self.assertEqual(self.schema.fields(("m", "e")), [])

    def test_as_python_compares_names(self):
        schema = Schema({"top": {name: ("flag",) for name in ("b", "aa", "a", "ba", "ab")}})
        self.assertEqual(schema.fields(()), ["a", "aa", "ab", "b", "ba"])

    def test_paths_to_other_kinds(self):
        for path, kind in PATHS.items():
            if kind[0] != "message":
                self.check_bad_path(self.schema.fields, path)

    def test_new_each_time(self):
        for path in ((), ("m",)):
            told = self.schema.fields(path)
            self.assertIs(type(told), list)
            told.append("z")
            self.assertNotIn("z", self.schema.fields(path))
            self.schema.fields(path).clear()
            self.assertEqual(self.schema.fields(path), told[:-1])


class MatesTest(PathTestCase):
    def test_mates(self):
        told = {
            ("x",): [("y",)], ("y",): [("x",)], ("w",): [("m",), ("t",)], ("m",): [("t",), ("w",)],
            ("t",): [("m",), ("w",)], ("m", "e"): [("m", "g"), ("m", "n")], ("m", "g"): [("m", "e"), ("m", "n")],
            ("m", "n"): [("m", "e"), ("m", "g")],
        }
        for path in PATHS:
            self.assertEqual(self.schema.mates(path), told.get(path, []), path)

    def test_names_of_a_map_have_none(self):
        # x and w stand in choices of the top, e and n in one of m.
        for path in (("t", "x"), ("t", "w"), ("t", "t"), ("m", "g", "e"), ("m", "g", "n")):
            self.assertEqual(self.schema.mates(path), [])

    def test_a_field_of_the_same_name_in_another_message(self):
        # t of inner stands in no choice, though t of the top does.
        self.assertEqual(self.schema.mates(("m", "n", "t")), [])

    def test_a_message_in_two_fields(self):
        messages = {"top": {"a": ("message", "m"), "b": ("message", "m")}, "m": {name: ("text",) for name in "xyz"}}
        schema = Schema(messages, {"m": [("x", "z")]})
        self.assertEqual(schema.mates(("a", "x")), [("a", "z")])
        self.assertEqual(schema.mates(("b", "z")), [("b", "x")])
        self.assertEqual(schema.mates(("b", "y")), [])

    def test_ascending_as_python_compares_names(self):
        names = ("a", "aa", "ab", "b", "ba")
        schema = Schema({"top": {name: ("flag",) for name in names}}, {"top": [names]})
        self.assertEqual(schema.mates(("ab",)), [("a",), ("aa",), ("b",), ("ba",)])

    def test_new_each_time(self):
        for path in (("w",), ("f",), ("t", "k")):
            told = self.schema.mates(path)
            self.assertIs(type(told), list)
            told.append(("z",))
            self.assertEqual(self.schema.mates(path), told[:-1])


if __name__ == "__main__":
    unittest.main()
