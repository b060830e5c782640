"""Tests of the bounds of a schema ([3], [4]): at each one, and one beyond it."""

import unittest

from maskwrites.errors import BadPath, BadSchema
from maskwrites.schemas import Schema, is_kind

NUMBER = ("number",)


def message(name):
    return ("message", name)


def fields_of(names):
    return {name: NUMBER for name in names}


def row_of(names):
    """Return messages each of which stands in the one ahead of it, and a number in the last one."""
    messages = {name: {"a": message(then)} for name, then in zip(names, names[1:])}
    messages[names[-1]] = {"x": NUMBER}
    return messages


class BoundsTest(unittest.TestCase):
    def check_bad(self, messages, choices=None):
        with self.assertRaises(BadSchema) as caught:
            Schema(messages, choices)
        self.assertIs(caught.exception.value[0], messages)
        self.assertIs(caught.exception.value[1], choices)

    def test_six_messages(self):
        messages = {"top": {"m": message("e")}, "a": {}, "b": {}, "c": {}, "d": {}, "e": {"x": NUMBER}}
        schema = Schema(messages)
        self.assertEqual(schema.messages, messages)
        self.assertEqual(schema.kind_at(("m", "x")), NUMBER)
        messages["f"] = {}
        self.check_bad(messages)

    def test_six_messages_that_are_all_reached(self):
        top = {name: message(name) for name in ("a", "b", "c", "d", "e")}
        messages = {"top": top, **{name: fields_of("xyz") for name in top}}
        schema = Schema(messages, {name: [("x", "y", "z")] for name in top})
        for name in top:
            self.assertEqual(schema.mates((name, "y")), [(name, "x"), (name, "z")])

    def test_six_fields(self):
        for name in ("top", "m"):
            messages = {"top": {}, "m": {}}
            messages[name] = fields_of("abcdef")
            schema = Schema(messages, {name: [("a", "b", "c", "d", "e", "f")]})
            self.assertEqual(schema.messages[name], fields_of("abcdef"))
            messages[name]["g"] = NUMBER
            self.check_bad(messages)
        schema = Schema({"top": fields_of("fedcba")}, {"top": [("a", "b", "c", "d", "e", "f")]})
        self.assertEqual(schema.fields(()), list("abcdef"))
        self.assertEqual(schema.mates(("d",)), [("a",), ("b",), ("c",), ("e",), ("f",)])

    def test_four_deep(self):
        messages = row_of(["top", "b", "c", "d"])
        schema = Schema(messages)
        self.assertEqual(schema.kind_at(("a", "a", "a")), message("d"))
        self.assertEqual(schema.kind_at(("a", "a", "a", "x")), NUMBER)
        self.assertEqual(schema.fields(("a", "a", "a")), ["x"])
        self.assertTrue(schema.is_value(("a",), {"a": {"a": {"x": 0}}}))
        self.assertFalse(schema.is_value(("a",), {"a": {"a": {"x": -1}}}))
        self.assertFalse(schema.is_value(("a",), {"a": {"a": {"a": {}}}}))
        self.check_bad(row_of(["top", "b", "c", "d", "e"]))
        self.check_bad(row_of(["top", "b", "c", "d", "e", "f"]))

    def test_five_deep_without_a_field_is_too_deep(self):
        messages = row_of(["top", "b", "c", "d", "e"])
        messages["e"] = {}
        self.check_bad(messages)

    def test_the_deepest_way_counts(self):
        messages = row_of(["top", "b", "c", "d"])
        messages["top"]["z"] = message("d")
        self.assertEqual(Schema(messages).kind_at(("z", "x")), NUMBER)
        messages["e"] = {"b": message("b")}
        messages["top"]["y"] = message("e")
        self.check_bad(messages)

    def test_a_map_four_deep(self):
        messages = row_of(["top", "b", "c", "d"])
        messages["d"] = {"t": ("map", "text")}
        schema = Schema(messages)
        self.assertEqual(schema.kind_at(("a", "a", "a", "t", "abcdefgh")), ("text",))
        self.assertEqual(schema.mates(("a", "a", "a", "t", "abcdefgh")), [])
        self.assertTrue(schema.is_value(("a", "a", "a", "t"), {"k": ""}))
        self.assertTrue(schema.is_value(("a",), {"a": {"a": {"t": {"k": ""}}}}))
        self.assertFalse(schema.is_value(("a",), {"a": {"a": {"t": {}}}}))

    def test_messages_that_are_not_reached_are_not_counted(self):
        below = row_of(["b", "c", "d", "e", "f"])
        schema = Schema({"top": {"x": NUMBER}, **below})
        self.assertEqual(schema.fields(()), ["x"])
        # From b there are 6 + 36 + 216 paths, from the top just one.
        wide = {"b": {name: message("c") for name in "uvwxyz"}, "c": {name: message("d") for name in "uvwxyz"}}
        schema = Schema({"top": {"x": NUMBER}, **wide, "d": fields_of("uvwxyz")})
        self.assertEqual(schema.messages["c"], wide["c"])
        self.check_bad({"top": {"x": message("b")}, **wide, "d": fields_of("uvwxyz")})

    def test_messages_that_are_not_reached_may_hold_the_top(self):
        messages = {**row_of(["b", "c", "d", "e", "top"]), "top": {"x": NUMBER}}
        self.assertEqual(Schema(messages).messages, messages)

    def test_rings_that_are_not_reached(self):
        self.check_bad({"top": {"x": NUMBER}, **row_of(["b", "c", "d", "e", "f"]), "f": {"b": message("b")}})
        self.check_bad({"top": {"x": NUMBER}, **row_of(["b", "c", "d", "e", "f"]), "f": {"b": message("f")}})
        self.check_bad({"top": {"x": NUMBER}, **row_of(["b", "c", "d", "e", "f"]), "f": {"b": message("e")}})

    def test_forty_paths(self):
        messages = {
            "top": {**{name: message("m") for name in "abcde"}, "f": message("n")},
            "m": fields_of("uvwxyz"), "n": fields_of("wxyz"),
        }
        schema = Schema(messages)
        paths = [(name,) for name in "abcdef"]
        paths += [(name, field) for name in "abcde" for field in "uvwxyz"] + [("f", field) for field in "wxyz"]
        self.assertEqual(len(paths), 40)
        for path in paths:
            self.assertIs(schema.is_path(path), True)
        messages["n"]["v"] = NUMBER
        self.check_bad(messages)

    def test_maps_and_empty_messages_are_one_path_each(self):
        messages = {
            "top": {**{name: message("m") for name in "abcde"}, "f": message("n")},
            "m": {**{name: ("map", "text") for name in "uvw"}, **{name: message("e") for name in "xyz"}},
            "n": fields_of("wxyz"), "e": {},
        }
        self.assertTrue(Schema(messages).is_path(("a", "u", "k")))
        messages["n"]["v"] = ("map", "flag")
        self.check_bad(messages)
        messages["n"]["v"] = message("e")
        self.check_bad(messages)

    def test_forty_paths_deep_down(self):
        # 2 + 4 + 8 + 24 paths, and 2 more beside them.
        messages = {
            "top": {"a": message("b"), "b": message("b"), "y": NUMBER, "z": NUMBER},
            "b": {"a": message("c"), "b": message("c")},
            "c": {"a": message("d"), "b": message("d")},
            "d": fields_of("xyz"),
        }
        self.assertTrue(Schema(messages).is_path(("b", "b", "b", "z")))
        messages["top"]["x"] = NUMBER
        self.check_bad(messages)

    def test_names_of_eight_letters(self):
        messages = {"top": {"abcdefgh": message("hgfedcba")}, "hgfedcba": {"aaaaaaaa": NUMBER, "zzzzzzzz": NUMBER}}
        schema = Schema(messages, {"hgfedcba": [("aaaaaaaa", "zzzzzzzz")]})
        self.assertEqual(schema.mates(("abcdefgh", "zzzzzzzz")), [("abcdefgh", "aaaaaaaa")])
        self.assertEqual(schema.fields(("abcdefgh",)), ["aaaaaaaa", "zzzzzzzz"])
        self.assertTrue(schema.is_value(("abcdefgh",), {"zzzzzzzz": 1}))

    def test_names_of_nine_letters(self):
        self.check_bad({"top": {"abcdefghi": NUMBER}})
        self.check_bad({"top": {}, "abcdefghi": {}})
        self.check_bad({"top": {"a": message("abcdefghi")}, "abcdefghi": {}})
        self.check_bad({"top": fields_of("ab")}, {"abcdefghi": []})
        self.assertIs(is_kind(message("abcdefgh")), True)
        self.assertIs(is_kind(message("abcdefghi")), False)
        schema = Schema({"top": {"t": ("map", "text")}})
        with self.assertRaises(BadPath):
            schema.kind_at(("t", "abcdefghi"))
        self.assertIs(schema.is_value(("t",), {"abcdefghi": ""}), False)
        self.assertIs(schema.is_value(("t",), {"abcdefgh": ""}), True)

    def test_everything_at_its_bound(self):
        messages = {
            "topaaaaa": fields_of("a"),
            "top": {"aaaaaaaa": message("bbbbbbbb"), "b": message("c"), "c": message("d"), "d": message("d"),
                    "e": NUMBER, "f": NUMBER},
            "bbbbbbbb": {"a": message("c"), "v": NUMBER, "w": message("d"), "x": NUMBER, "y": NUMBER,
                         "z": message("d")},
            "c": {"a": message("d"), "b": NUMBER},
            "d": fields_of("abcd"),
            "e": fields_of("abcdef"),
        }
        # 6 paths of the top, 6 + 6 + 4 + 4 below aaaaaaaa, 2 + 4 below b, 4 below c and 4 below d are 40.
        choices = {"top": [("aaaaaaaa", "b"), ("c", "d"), ("e", "f")], "bbbbbbbb": [("a", "v", "w", "x", "y", "z")]}
        schema = Schema(messages, choices)
        self.assertEqual(schema.messages, messages)
        self.assertEqual(schema.choices, choices)
        self.assertEqual(schema.fields(("aaaaaaaa",)), ["a", "v", "w", "x", "y", "z"])
        self.assertEqual(schema.kind_at(("aaaaaaaa", "a", "a", "d")), NUMBER)
        self.assertEqual(schema.mates(("c",)), [("d",)])
        for name in ("topaaaaa", "e"):
            self.assertEqual(schema.messages[name], messages[name])
        messages["d"]["e"] = NUMBER
        self.check_bad(messages, choices)


if __name__ == "__main__":
    unittest.main()
