"""Tests of is_kind ([4])."""

import unittest

from maskwrites.schemas import is_kind
from tests.anyvalues import any_values, nested

SIMPLE = ("text", "number", "flag")


class KindsTest(unittest.TestCase):
    def test_kinds(self):
        for word in SIMPLE:
            self.assertIs(is_kind((word,)), True)
            self.assertIs(is_kind(("map", word)), True)
        for name in ("m", "top", "text", "map", "abcdefgh"):
            self.assertIs(is_kind(("message", name)), True)

    def test_other_values(self):
        wrong = [
            (), ("map",), ("message",), ("top",), ("Text",), ("texts",), ("tex",), ("",), (None,), (1,), (["text"],),
            ("text", "text"), ("number", "x"), ("flag", ""), ("map", "map"), ("map", "message"), ("map", "m"),
            ("map", ("text",)), ("map", ["text"]), ("map", None), ("map", True), ("map", "text", "text"),
            ("message", ""), ("message", "M"), ("message", "abcdefghi"), ("message", 1), ("message", ["m"]),
            ("message", None), ("message", "m", "m"), ("text", ()), ("text", None), (("text",),), (("text", "text"),),
            ["text"], ["map", "text"], ["message", "m"], "text", {"text": 1}, {"map": "text"}, True, 0, None,
            nested(lambda value: ("map", value)), nested(lambda value: ("message", value)),
        ]
        for value in wrong:
            self.assertIs(is_kind(value), False)

    def test_any_value(self):
        right = [("text",), ("number",), ("flag",), ("map", "text"), ("message", "m")]
        for value in any_values():
            self.assertIs(is_kind(value), value in right)

    def test_argument_by_name(self):
        self.assertIs(is_kind(value=("text",)), True)


if __name__ == "__main__":
    unittest.main()
