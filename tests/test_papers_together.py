"""Tests of the order of papers, of merging, cutting and copying them ([2], [6], [7], [8])."""

import itertools
import unittest

from maskwrites.masks import Mask
from maskwrites.papers import Paper
from maskwrites.schemas import Schema
from tests import flat
from tests.anyvalues import any_values, schema_example
from tests.samples import FEW, FLAG, MORE, NUMBER, TEXT, all_papers, all_paths, message, shapes
from tests.test_papers import example, full, full_content


def some_papers(most=30):
    """Return for each of the schemas some of its small papers."""
    rows = []
    for schema, _, names in shapes():
        papers = all_papers(schema, FEW, names[:2])
        rows.append((schema, papers[::max(1, len(papers) // most)]))
    return rows


class PartsTest(unittest.TestCase):
    def test_leaves_and_messages(self):
        self.assertEqual(full().parts(), [
            ("f",), ("m",), ("m", "a"), ("m", "b"), ("m", "n"), ("m", "n", "c", "k"), ("m", "n", "c", "l"),
            ("m", "n", "d"), ("m", "n", "t"), ("x",),
        ])
        self.assertEqual(len(full()), 10)
        self.assertEqual(Paper(example(), {"m": {}}).parts(), [("m",)])

    def test_ascending_as_python_compares_tuples(self):
        schema = Schema({"top": {"m": message("m"), "ma": NUMBER, "b": ("map", "number")}, "m": {"z": NUMBER}})
        paper = Paper(schema, {"ma": 1, "m": {"z": 1}, "b": {"b": 1, "aa": 2, "a": 3}})
        self.assertEqual(paper.parts(), [("b", "a"), ("b", "aa"), ("b", "b"), ("m",), ("m", "z"), ("ma",)])

    def test_new_each_time(self):
        paper = full()
        paper.parts().clear()
        self.assertEqual(len(paper.parts()), 10)
        self.assertIs(type(paper.parts()), list)

    def test_all_small_papers(self):
        for schema, papers in some_papers():
            for paper in papers:
                self.assertEqual(paper.parts(), sorted(flat.parts_of(paper)))
                self.assertEqual(len(paper), len(flat.parts_of(paper)))


class OrderTest(unittest.TestCase):
    def test_all_small_papers(self):
        for schema, papers in some_papers(40):
            for first, second in itertools.product(papers, repeat=2):
                one, two = flat.order_key(flat.parts_of(first)), flat.order_key(flat.parts_of(second))
                self.assertIs(first < second, one < two)
                self.assertIs(first == second, one == two)
                self.assertIs(first != second, one != two)

    def test_fewer_parts_then_paths_then_values(self):
        schema = Schema({"top": {
            "a": NUMBER, "aa": NUMBER, "b": NUMBER, "w": TEXT, "f": FLAG, "t": ("map", "text"),
        }})
        contents = [
            {}, {"a": 0}, {"a": 10 ** 59}, {"aa": 0}, {"b": 5}, {"f": False}, {"f": True}, {"t": {"a": "z"}},
            {"t": {"aa": ""}}, {"t": {"b": "a"}}, {"w": ""}, {"w": "a"}, {"w": "b"}, {"w": "z"}, {"w": "aa"},
            {"w": "zzz"}, {"w": "aaaa"}, {"a": 9, "aa": 9}, {"a": 0, "b": 0}, {"a": 0, "b": 1}, {"a": 1, "b": 0},
            {"aa": 0, "b": 0}, {"t": {"a": "", "b": "z"}}, {"t": {"a": "a", "b": ""}}, {"a": 0, "aa": 0, "b": 0},
        ]
        papers = [Paper(schema, content) for content in contents]
        for first, second in itertools.product(range(len(papers)), repeat=2):
            self.assertIs(papers[first] < papers[second], first < second)
            self.assertIs(papers[first] > papers[second], first > second)
            self.assertIs(papers[first] == papers[second], first == second)
        self.assertEqual([paper.content for paper in sorted(reversed(papers))], contents)

    def test_a_message_counts(self):
        schema = Schema({"top": {"m": message("m"), "x": NUMBER}, "m": {"a": NUMBER}})
        contents = [{}, {"m": {}}, {"x": 0}, {"m": {"a": 3}}, {"m": {}, "x": 0}, {"m": {"a": 0}, "x": 0}]
        papers = [Paper(schema, content) for content in contents]
        self.assertEqual([paper.content for paper in sorted(papers[::-1])], contents)

    def test_equality_with_any_value(self):
        for value in any_values() + [full_content(), full().parts(), Paper, object()]:
            self.assertIs(full() == value, False)
            self.assertIs(value == full(), False)
            self.assertIs(full() != value, True)

    def test_unlike_schemas(self):
        schemas = [
            Schema({"top": {"x": NUMBER, "y": NUMBER}}),
            Schema({"top": {"x": NUMBER, "y": NUMBER}}, {"top": [("x", "y")]}),
            Schema({"top": {"x": NUMBER, "y": TEXT}}),
            Schema({"top": {"x": NUMBER}}),
            Schema({"top": {"x": NUMBER, "y": NUMBER}, "m": {}}),
        ]
        for first, second in itertools.product(schemas, repeat=2):
            for content in ({}, {"x": 1}):
                same = Paper(first, content) == Paper(second, content)
                self.assertIs(same, first == second)
        flags = Paper(Schema({"top": {"x": FLAG}}), {"x": True})
        self.assertIs(flags == Paper(Schema({"top": {"x": NUMBER}}), {"x": 1}), False)

    def test_equal_schemas_that_are_made_twice(self):
        self.assertEqual(Paper(example(), {"x": 1}), Paper(example(), {"x": 1}))
        self.assertIs(Paper(example(), {"x": 1}) < Paper(example(), {"x": 1}), False)
        self.assertIs(Paper(example(), {"x": 1}) < Paper(example(), {"x": 2}), True)


class MergeTest(unittest.TestCase):
    def test_all_small_papers(self):
        for schema, papers in some_papers():
            for first, second in itertools.product(papers[::2], papers):
                self.check_merge(schema, first, second)

    def check_merge(self, schema, first, second):
        told = first.copy()
        kept = told
        before = second.content
        told |= second
        self.assertIs(told, kept)
        made = flat.parts_of(first)
        for path, value in sorted(flat.parts_of(second).items(), key=lambda row: row[0]):
            if value is not None:
                made = flat.put(schema, made, path, value)
            elif path not in made:
                made = flat.put(schema, made, path, {})
        self.assertEqual(flat.parts_of(told), made)
        self.assertEqual(told.parts(), sorted(made))
        self.assertEqual(second.content, before)

    def test_by_hand(self):
        paper = Paper(example(), {"x": 1, "m": {"a": 2}})
        paper |= Paper(example(), {"y": 3, "m": {}})
        self.assertEqual(paper.content, {"y": 3, "m": {"a": 2}})

    def test_in_ascending_sequence(self):
        schema = Schema(*schema_example())
        paper = Paper(schema, {"w": "a", "f": True, "x": 1})
        paper |= Paper(schema, {"m": {"n": {"d": ""}}, "y": 0})
        self.assertEqual(paper.content, {"f": True, "m": {"n": {"d": ""}}, "y": 0})
        paper |= Paper(schema, {"m": {"g": {"k": True}}})
        self.assertEqual(paper.content, {"f": True, "m": {"g": {"k": True}}, "y": 0})
        paper |= Paper(schema, {"m": {"g": {"l": False}, "a": 1}})
        self.assertEqual(paper[("m",)], {"g": {"k": True, "l": False}, "a": 1})

    def test_itself(self):
        paper = kept = full()
        paper |= paper
        self.assertIs(paper, kept)
        self.assertEqual(paper, full())

    def test_the_other_one_stays_apart(self):
        first, second = Paper(Schema(*schema_example())), full()
        first |= second
        self.assertEqual(first, second)
        first[("m", "n", "c", "k")] = 8
        self.assertEqual(second, full())
        second.clear(("m",))
        self.assertEqual(first[("m", "n", "c", "k")], 8)


class CutTest(unittest.TestCase):
    def test_all_small_papers(self):
        for schema, papers in some_papers(20):
            paths = all_paths(schema, ("a", "k"))
            masks = [Mask(row) for many in range(3) for row in itertools.combinations(paths, many)]
            for paper, mask in itertools.product(papers, masks):
                self.check_cut(schema, paper, mask)

    def check_cut(self, schema, paper, mask):
        parts = flat.parts_of(paper)
        covered = {path: value for path, value in parts.items() if path in mask}
        above = {
            path: None for path in parts
            if parts[path] is None and any(flat.begins(part, path) for part in covered)
        }
        self.assertEqual(flat.parts_of(paper.only(mask)), {**above, **covered})
        rest = {path: value for path, value in parts.items() if path not in mask}
        self.assertEqual(flat.parts_of(paper.outside(mask)), rest)
        self.assertEqual(flat.parts_of(paper), parts)
        self.assertEqual(paper.only(mask).schema, schema)
        self.assertEqual(paper.outside(mask).schema, schema)

    def test_by_hand(self):
        paper = full()
        self.assertEqual(paper.only(Mask()).content, {})
        self.assertEqual(paper.outside(Mask()), paper)
        self.assertEqual(paper.only(Mask([("m", "n", "c", "k")])).content, {"m": {"n": {"c": {"k": 0}}}})
        self.assertEqual(paper.only(Mask([("m", "n", "c", "z")])).content, {})
        told = paper.only(Mask([("m", "n", "c"), ("x",)]))
        self.assertEqual(told.content, {"m": {"n": {"c": {"k": 0, "l": 5}}}, "x": 3})
        told = paper.outside(Mask([("m", "n", "c", "k"), ("m", "n", "c", "l")]))
        self.assertEqual(told[("m", "n")], {"d": "ab", "t": 2})
        self.assertEqual(paper.outside(Mask([("m", "n"), ("m", "a"), ("m", "b")]))[("m",)], {})
        self.assertEqual(paper.outside(Mask([("m",), ("x",), ("f",)])).content, {})
        self.assertEqual(paper, full())

    def test_the_example_of_the_document(self):
        paper = Paper(example(), {"m": {"a": 0}, "y": 5})
        self.assertEqual(paper.only(Mask([("m",)])).content, {"m": {"a": 0}})

    def test_new_papers(self):
        paper = full()
        for made in (paper.only(Mask([("m",)])), paper.outside(Mask())):
            made[("m", "n", "c", "k")] = 9
            made.clear(("m", "b"))
        self.assertEqual(paper, full())

    def test_arguments_by_name(self):
        self.assertEqual(full().only(mask=Mask([("x",)])).content, {"x": 3})
        self.assertEqual(full().outside(mask=Mask([("m",)])).content, {"x": 3, "f": False})


class CopyTest(unittest.TestCase):
    def test_ways_of_their_own(self):
        content = full_content()
        schema = Schema(*schema_example())
        first, second = Paper(schema, content), Paper(schema, content)
        third = first.copy()
        self.assertEqual(first, second)
        self.assertEqual(first, third)
        first[("m", "n", "c", "k")] = 1
        self.assertEqual(second, third)
        self.assertNotEqual(first, third)
        third.clear(("m", "n", "c"))
        self.assertEqual(second, full())
        self.assertEqual(content, full_content())

    def test_all_small_papers(self):
        for schema, papers in some_papers():
            for paper in papers:
                made = paper.copy()
                self.assertEqual(made, paper)
                self.assertIsNot(made, paper)
                self.assertEqual(made.schema, schema)

    def test_a_changed_paper_is_in_order_at_once(self):
        schema = Schema({"top": {"x": NUMBER, "y": NUMBER}})
        papers = all_papers(schema, MORE)
        for paper, other in itertools.product(papers, repeat=2):
            told = paper.copy()
            told[("x",)] = 2
            told.clear(("y",))
            same = Paper(schema, {"x": 2})
            self.assertEqual(told, same)
            self.assertIs(told < other, same < other)


if __name__ == "__main__":
    unittest.main()
