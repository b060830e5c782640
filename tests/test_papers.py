"""Tests of making papers, reading them, setting and clearing paths ([2], [5], [6], [7])."""

import copy
import unittest

from maskwrites.errors import BadPaper, BadPath, BadValue, Unset
from maskwrites.papers import Paper
from maskwrites.schemas import Schema
from tests import flat
from tests.anyvalues import any_values, schema_example
from tests.samples import FEW, FLAG, NUMBER, TEXT, all_papers, all_paths, message, shapes, values_of

TOP = {"x": NUMBER, "y": NUMBER, "m": message("m")}


def example():
    """Return the schema of the document's example."""
    return Schema({"top": TOP, "m": {"a": NUMBER}}, {"top": [("x", "y")]})


def full_content():
    """Return a content of the schema with every kind."""
    return {"f": False, "x": 3, "m": {"a": 1, "b": True, "n": {"c": {"k": 0, "l": 5}, "d": "ab", "t": 2}}}


def full():
    return Paper(Schema(*schema_example()), full_content())


class MakingTest(unittest.TestCase):
    def check_bad(self, schema, content):
        kept = copy.deepcopy(content)
        with self.assertRaises(BadPaper) as caught:
            Paper(schema, content)
        self.assertIs(caught.exception.value, content)
        self.assertEqual(content, kept)

    def test_the_example_of_the_document(self):
        schema = example()
        paper = Paper(schema, {"x": 1})
        paper[("y",)] = 5
        self.assertEqual(paper.content, {"y": 5})
        paper[("m", "a")] = 0
        self.assertEqual(
            [paper.parts(), len(paper), ("x",) in paper], [[("m",), ("m", "a"), ("y",)], 3, False],
        )

    def test_no_content(self):
        for paper in (Paper(example()), Paper(example(), None), Paper(example(), {}), Paper(schema=example())):
            self.assertEqual(paper.content, {})
            self.assertEqual(paper.parts(), [])
            self.assertEqual(len(paper), 0)

    def test_all_small_contents(self):
        for schema, values, names in shapes():
            for paper in all_papers(schema, FEW, names[:2]):
                self.assertEqual(Paper(schema, paper.content).content, paper.content)
                self.assertEqual(paper.content, flat.content_of(flat.parts_of(paper)))

    def test_any_value_as_content(self):
        schema = Schema({"top": {"x": NUMBER, "w": TEXT}})
        for value in any_values():
            if value is None or value in ({}, {"x": 1}):
                self.assertEqual(Paper(schema, value).content, value or {})
            else:
                self.check_bad(schema, value)

    def test_any_value_as_a_field(self):
        schema = Schema(*schema_example())
        good = {
            "w": lambda value: isinstance(value, str) and value in ("", "a", "x", "top", "ab", "text", "number", "flag",
                                                                   "message", "map", "abcdefgh", "abcdefghi",
                                                                   "abcdefghijkl", "none"),
            "x": lambda value: type(value) is int and value >= 0,
            "f": lambda value: type(value) is bool,
            "m": lambda value: value == {} and isinstance(value, dict),
            "t": lambda value: isinstance(value, dict) and value == {"x": "ab", "y": "ab"},
        }
        for field, is_good in good.items():
            for value in any_values():
                if is_good(value):
                    self.assertEqual(Paper(schema, {field: value}).content, {field: value})
                else:
                    self.check_bad(schema, {field: value})

    def test_wrong_contents(self):
        schema = Schema(*schema_example())
        wrong = [
            {"x": 1, "y": 1}, {"w": "", "t": {"a": ""}}, {"m": {}, "w": "a"}, {"t": {}}, {"z": 1}, {"X": 1}, {1: 1},
            {None: None}, {("x",): 1}, {"m": {"e": {}, "n": {}}}, {"m": {"g": {}}}, {"m": {"n": {"c": {"K": 1}}}},
            {"m": {"n": {"c": {"k": True}}}}, {"m": {"e": {"x": 1}}}, {"m": None}, {"m": []}, {"x": None},
            {"m": {"n": {"d": "AB"}}}, {"m": {"n": {"d": "abcdefghijklm"}}}, {"m": {"b": 1}}, {"x": -1}, {"x": True},
            {"m": {"n": {"c": {"abcdefghi": 1}}}},
        ]
        for content in wrong:
            self.check_bad(schema, content)

    def test_copied_through_and_through(self):
        content = full_content()
        paper = Paper(Schema(*schema_example()), content)
        content["m"]["n"]["c"]["k"] = 9
        content["m"]["n"].clear()
        content["x"] = 0
        self.assertEqual(paper.content, full_content())

    def test_what_is_told_is_new(self):
        paper = full()
        for change in (
            lambda told: told.clear(), lambda told: told["m"].clear(), lambda told: told["m"]["n"]["c"].clear(),
        ):
            change(paper.content)
            self.assertEqual(paper.content, full_content())
        self.assertEqual(paper.schema, Schema(*schema_example()))

    def test_the_sequence_of_keys_changes_nothing(self):
        def turned(value):
            if not isinstance(value, dict):
                return value
            return {name: turned(value[name]) for name in reversed(list(value))}

        other = Paper(Schema(*schema_example()), turned(full_content()))
        self.assertEqual(repr(other.content), repr(full().content))
        self.assertEqual(other, full())
        self.assertEqual(repr(other[("m",)]), repr(full()[("m",)]))


class ReadingTest(unittest.TestCase):
    def test_values_at_all_paths(self):
        for schema, values, names in shapes():
            for paper in all_papers(schema, FEW, names[:2]):
                for path in all_paths(schema, ("a", "b", "k")):
                    self.check_path(paper, path)

    def check_path(self, paper, path):
        value = paper.content
        for name in path:
            value = value.get(name) if value is not None else None
        self.assertIs(path in paper, value is not None)
        if value is not None:
            self.assertEqual(paper[path], value)
            self.assertIs(type(paper[path]), type(value))
        else:
            with self.assertRaises(Unset) as caught:
                paper[path]
            self.assertIs(caught.exception.path, path)

    def test_the_same_field_by_hand(self):
        paper = full()
        self.assertEqual(paper[("m", "n", "c")], {"k": 0, "l": 5})
        self.assertEqual(paper[("m", "n", "c", "k")], 0)
        self.assertIs(paper[("m", "b")], True)
        self.assertIs(("f",) in paper, True)
        self.assertIs(("m", "n", "c", "m") in paper, False)
        self.assertIs(("t",) in paper, False)
        self.assertIs(("m", "e") in paper, False)

    def test_what_is_read_is_new(self):
        paper = full()
        paper[("m",)].clear()
        paper[("m",)]["n"].clear()
        paper[("m", "n", "c")]["k"] = 7
        self.assertEqual(paper.content, full_content())

    def test_any_value_that_is_no_path(self):
        paper = Paper(Schema({"top": {"x": NUMBER, "m": message("m")}, "m": {}}), {"x": 1})
        for value in any_values():
            if value == ("x",):
                self.assertEqual(paper[value], 1)
                continue
            self.assertIs(value in paper, False)
            for call in (lambda: paper[value], lambda: paper.clear(value), lambda: paper.__setitem__(value, 1)):
                with self.assertRaises(BadPath) as caught:
                    call()
                self.assertIs(caught.exception.value, value)
        self.assertEqual(paper.content, {"x": 1})

    def test_papers_are_asked_by_paths_alone(self):
        with self.assertRaises(TypeError):
            list(full())


class SettingTest(unittest.TestCase):
    def test_all_small_papers_at_all_paths(self):
        for schema, values, names in shapes():
            papers = all_papers(schema, FEW, names[:2])
            for paper in papers[::max(1, len(papers) // 40)]:
                for path in all_paths(schema, ("a", "k")):
                    self.check_path(schema, paper, path)

    def check_path(self, schema, paper, path):
        before = flat.parts_of(paper)
        for value in values_of(schema, schema.kind_at(path), FEW, ("a", "b"))[:6]:
            told = paper.copy()
            self.assertIsNone(told.__setitem__(path, value))
            self.assertEqual(flat.parts_of(told), flat.put(schema, before, path, value))
            self.assertEqual(told.parts(), sorted(flat.parts_of(told)))
        told = paper.copy()
        self.assertIsNone(told.clear(path))
        self.assertEqual(flat.parts_of(told), flat.cleared(before, path))
        self.assertEqual(told.parts(), sorted(flat.parts_of(told)))
        self.assertEqual(flat.parts_of(paper), before)

    def test_messages_above_are_made_and_choices_on_the_way_cleared(self):
        paper = Paper(Schema(*schema_example()), {"t": {"k": "ab"}, "f": True})
        paper[("m", "n", "c", "k")] = 4
        self.assertEqual(paper.content, {"f": True, "m": {"n": {"c": {"k": 4}}}})
        paper[("m", "g", "z")] = False
        self.assertEqual(paper.content, {"f": True, "m": {"g": {"z": False}}})
        paper[("m", "e")] = {}
        self.assertEqual(paper.content, {"f": True, "m": {"e": {}}})
        paper[("t", "k")] = ""
        self.assertEqual(paper.content, {"f": True, "t": {"k": ""}})
        paper[("w",)] = "b"
        self.assertEqual(paper.content, {"f": True, "w": "b"})

    def test_a_message_or_map_has_just_this_then(self):
        paper = full()
        paper[("m", "n", "c")] = {"z": 1}
        self.assertEqual(paper[("m", "n", "c")], {"z": 1})
        paper[("m",)] = {"b": False}
        self.assertEqual(paper[("m",)], {"b": False})
        paper[("m",)] = {}
        self.assertEqual(paper[("m",)], {})
        self.assertEqual(paper.parts(), [("f",), ("m",), ("x",)])

    def test_what_was_handed_in_may_be_changed(self):
        paper = full()
        value = {"n": {"c": {"k": 1}}}
        paper[("m",)] = value
        value["n"]["c"]["k"] = 2
        value["n"].clear()
        self.assertEqual(paper[("m",)], {"n": {"c": {"k": 1}}})

    def test_any_value_that_may_not_stand_there(self):
        schema = Schema(*schema_example())
        for path in (("x",), ("w",), ("f",), ("m",), ("t",), ("t", "k"), ("m", "e"), ("m", "n", "c")):
            for value in any_values() + [{"k": {}}, {"a": 1, "z": 1}, {"x": 1, "y": 1}, {"e": {}, "n": {}}]:
                paper = full()
                if schema.is_value(path, value):
                    paper[path] = value
                    self.assertEqual(paper[path], value)
                else:
                    with self.assertRaises(BadValue) as caught:
                        paper[path] = value
                    self.assertIs(caught.exception.value, value)
                    self.assertEqual(paper, full())

    def test_bad_path_comes_first(self):
        paper = full()
        for path in (("z",), (), ("m", "z"), ("x", "y"), "x", ["x"], None):
            with self.assertRaises(BadPath) as caught:
                paper[path] = ["wrong"]
            self.assertIs(caught.exception.value, path)
        self.assertEqual(paper, full())


class ClearingTest(unittest.TestCase):
    def test_messages_above_stay(self):
        paper = Paper(example(), {"m": {"a": 1}})
        paper.clear(("m", "a"))
        self.assertEqual(paper.content, {"m": {}})
        paper.clear(("m",))
        self.assertEqual(paper.content, {})

    def test_the_last_name_of_a_map(self):
        paper = full()
        paper.clear(("m", "n", "c", "k"))
        self.assertEqual(paper[("m", "n", "c")], {"l": 5})
        paper.clear(("m", "n", "c", "l"))
        self.assertIs(("m", "n", "c") in paper, False)
        self.assertEqual(paper[("m", "n")], {"d": "ab", "t": 2})

    def test_what_is_unset_already(self):
        paper = Paper(Schema(*schema_example()), {"x": 1})
        for path in (("y",), ("m",), ("m", "n", "c", "k"), ("m", "n"), ("t",), ("t", "k"), ("w",)):
            self.assertIsNone(paper.clear(path))
            self.assertEqual(paper.content, {"x": 1})

    def test_a_map_as_a_whole(self):
        paper = full()
        paper.clear(("m", "n", "c"))
        self.assertEqual(paper[("m", "n")], {"d": "ab", "t": 2})

    def test_arguments_by_name(self):
        paper = Paper(content={"x": 1}, schema=example())
        paper.clear(path=("x",))
        self.assertEqual(paper.content, {})


class DeepTest(unittest.TestCase):
    def test_four_deep(self):
        schema = Schema({
            "top": {"m": message("a"), "x": FLAG}, "a": {"m": message("b"), "x": FLAG}, "b": {"m": message("c")},
            "c": {"t": ("map", "text"), "x": FLAG},
        }, {"top": [("m", "x")], "a": [("m", "x")], "c": [("t", "x")]})
        paper = Paper(schema, {"x": True})
        paper[("m", "m", "m", "t", "k")] = "abcdefghijkl"
        self.assertEqual(paper.content, {"m": {"m": {"m": {"t": {"k": "abcdefghijkl"}}}}})
        paper[("m", "m", "m", "x")] = False
        self.assertEqual(paper.content, {"m": {"m": {"m": {"x": False}}}})
        self.assertEqual(len(paper), 4)
        paper[("m", "x")] = True
        self.assertEqual(paper.content, {"m": {"x": True}})


if __name__ == "__main__":
    unittest.main()
