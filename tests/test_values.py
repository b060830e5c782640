"""Tests of is_value ([3], [5])."""

import copy
import unittest

from maskwrites.errors import BadPath
from maskwrites.schemas import Schema
from tests.anyvalues import any_values, nested, schema_example

GOOD = {
    ("w",): ["", "a", "abcdefghijkl"],
    ("x",): [0, 1, 10 ** 60 - 1],
    ("f",): [True, False],
    ("t",): [{"k": ""}, {"k": "ab", "abcdefgh": "x", "t": "top"}, {"n" + letter: "" for letter in "abcdefghijklmnop"}],
    ("t", "k"): ["", "abcdefghijkl"],
    ("m",): [
        {}, {"a": 0}, {"a": 1, "b": False, "n": {}}, {"e": {}}, {"g": {"a": True, "b": False}},
        {"n": {"c": {"k": 1}, "d": "", "t": 0}, "b": True, "a": 3}, {"b": True, "e": {}},
    ],
    ("m", "g"): [{"a": True}, {"a": False, "b": False}],
    ("m", "g", "k"): [True, False],
    ("m", "e"): [{}],
    ("m", "n"): [{}, {"d": "ab"}, {"c": {"k": 0}}, {"t": 10 ** 60 - 1}],
    ("m", "n", "c"): [{"k": 0, "l": 1}],
    ("m", "n", "c", "k"): [0],
}

WRONG = {
    ("w",): ["abcdefghijklm", "A", "a b", "a1", 0, True, None, ("a",), ["a"], {"a": "a"}, {}],
    ("x",): [-1, True, False, None, "", "1", (0,), [0], {}, {"k": 0}],
    ("f",): [0, 1, None, "", "yes", "true", (True,), [True], {}],
    ("t",): [
        {}, {"k": 1}, {"k": None}, {"k": "ab", "l": True}, {"K": "ab"}, {"": "ab"}, {"abcdefghi": "ab"}, {1: "ab"},
        {None: "ab"}, {("k",): "ab"}, {"k": {"l": "ab"}}, {"k": "abcdefghijklm"}, [("k", "ab")], ("k", "ab"), "k",
        [], (), None, True, 0,
    ],
    ("t", "k"): [0, True, None, "A", {}, {"k": "a"}, ["a"], ()],
    ("m",): [
        {"z": 1}, {"a": True}, {"a": -1}, {"a": None}, {"b": 0}, {"b": None}, {"g": {}}, {"g": {"a": 1}}, {"g": None},
        {"n": None}, {"n": {"c": {}}}, {"n": {"d": "A"}}, {"n": {"z": 1}}, {"e": {"a": 1}}, {"e": None}, {"e": []},
        {"e": {}, "n": {}}, {"e": {}, "g": {"a": True}}, {"g": {"a": True}, "n": {}}, {"A": 1}, {1: 1}, {("a",): 1},
        {None: 1}, {"": 1}, [], (), [("a", 1)], None, True, False, 0, "", "a", {"m": {}}, {"n": {"n": {}}},
        {((("a",),),): 1},
    ],
    ("m", "g"): [{}, {"a": 1}, {"a": 0}, {"a": "yes"}, None, True],
    ("m", "g", "k"): [0, 1, None, {}],
    ("m", "e"): [{"a": 1}, {"": {}}, [], None, (), False, 0],
    ("m", "n"): [{"c": {}}, {"c": {"k": True}}, {"c": {"k": -1}}, {"d": 0}, {"t": {"k": 0}}, None],
    ("m", "n", "c"): [{}, {"k": False}, {"k": "a"}, {"k": 0, "l": -1}, 0],
    ("m", "n", "c", "k"): [-1, True, {}, {"k": 0}],
}


class ValuesTest(unittest.TestCase):
    def setUp(self):
        self.schema = Schema(*schema_example())

    def test_good_values(self):
        for path, values in GOOD.items():
            for value in values:
                self.assertIs(self.schema.is_value(path, value), True, (path, value))

    def test_wrong_values(self):
        for path, values in WRONG.items():
            for value in values:
                self.assertIs(self.schema.is_value(path, value), False, (path, value))

    def test_any_value_at_any_path(self):
        for path in GOOD:
            for value in any_values():
                self.assertIs(self.schema.is_value(path, value), self.is_good(path, value), path)

    def is_good(self, path, value):
        """Tell of the values of any_values whether one may stand at a path, by its kind alone."""
        kind = self.schema.kind_at(path)
        if kind == ("text",):
            return isinstance(value, str) and len(value) <= 12 and (value == "" or value.isalpha()) and \
                value == value.lower()
        if kind == ("number",):
            return type(value) is int and value >= 0
        if kind == ("flag",):
            return type(value) is bool
        if kind == ("map", "text"):
            return value == {"x": "ab", "y": "ab"}
        if kind == ("map", "number"):
            return type(value) is dict and value == {"x": 1}
        return kind[0] == "message" and type(value) is dict and value == {}

    def test_deep_values(self):
        deep = [
            nested(lambda value: {"n": value}), nested(lambda value: {"k": value}), nested(lambda value: [value]),
            nested(lambda value: (value,)),
        ]
        for path in GOOD:
            for value in deep:
                self.assertIs(self.schema.is_value(path, value), False)

    def test_choices_hold_at_every_depth(self):
        messages = {
            "top": {"m": ("message", "m")}, "m": {"n": ("message", "n")},
            "n": {name: ("number",) for name in "abcdef"},
        }
        schema = Schema(messages, {"n": [("a", "b", "c"), ("d", "e")]})
        self.assertTrue(schema.is_value(("m",), {"n": {"a": 1, "d": 1, "f": 1}}))
        self.assertFalse(schema.is_value(("m",), {"n": {"a": 1, "c": 1}}))
        self.assertFalse(schema.is_value(("m",), {"n": {"a": 1, "d": 1, "e": 1}}))
        self.assertFalse(schema.is_value(("m", "n"), {"a": 1, "b": 1, "c": 1}))
        self.assertTrue(schema.is_value(("m", "n"), {"b": 1, "e": 1}))

    def test_the_value_stays_as_it_is(self):
        for values in (GOOD, WRONG):
            for path in values:
                for value in values[path]:
                    kept = copy.deepcopy(value)
                    self.schema.is_value(path, value)
                    self.assertEqual(value, kept)

    def test_the_sequence_of_keys_changes_nothing(self):
        self.assertTrue(self.schema.is_value(("m",), {"b": True, "a": 3}))
        self.assertTrue(self.schema.is_value(("m",), {"a": 3, "b": True}))
        self.assertFalse(self.schema.is_value(("m",), {"n": {}, "e": {}}))
        self.assertFalse(self.schema.is_value(("m",), {"e": {}, "n": {}}))

    def test_bad_path_whatever_the_value(self):
        for value in any_values():
            for path in ((), ("z",), ("x", "y"), ["x"], None, ("t", "k", "k")):
                with self.assertRaises(BadPath) as caught:
                    self.schema.is_value(path, value)
                self.assertIs(caught.exception.value, path)

    def test_arguments_by_name(self):
        self.assertIs(self.schema.is_value(path=("x",), value=3), True)
        self.assertIs(self.schema.is_value(value="a", path=("x",)), False)


if __name__ == "__main__":
    unittest.main()
