"""Tests of what programs can change ([2], [6], [7], [8])."""

import unittest

from maskwrites.alike import are_alike
from maskwrites.changes import changed, first_changed, first_outside
from maskwrites.masks import Mask
from maskwrites.papers import Paper
from maskwrites.programs import Program
from maskwrites.schemas import Schema
from tests import flat
from tests.leastness import LeastTestCase, chances, when
from tests.samples import FLAG, NUMBER, message

HAS_X = ("has", ("x",))


def changed_by(program, paper):
    """Return the set of the paths that a program changes in a paper."""
    return flat.changed_paths(program.schema, flat.parts_of(paper), flat.parts_of(program(paper)))


class ChangesTestCase(LeastTestCase):
    def check(self, schema, steps, paths, content):
        """Check the least mask of steps, and the least paper that they change at all."""
        program = Program(schema, steps)
        self.assertEqual(changed(program).paths, paths)
        told = first_changed(program)
        self.assertEqual(None if told is None else told.content, content)
        self.assertIsNone(first_outside(program, changed(program)))
        for path in paths:
            rest = Mask([other for other in paths if other != path])
            outside = first_outside(program, rest)
            self.assertTrue(any(other not in rest for other in changed_by(program, outside)))


class AllPapersTest(ChangesTestCase):
    def test_the_example_of_the_document(self):
        schema = Schema({"top": {"x": NUMBER, "y": NUMBER}}, {"top": [("x", "y")]})
        program = Program(schema, (("set", ("x",), 1),))
        self.assertEqual(
            [changed(program).paths, first_outside(program, Mask([("x",)])).content], [[("x",), ("y",)], {"y": 0}],
        )

    def test_the_least_mask_against_all_small_papers(self):
        for schema, chance, papers in chances(200, 1000):
            program = chance.program(4)
            mask = changed(program)
            for paper in papers:
                for path in changed_by(program, paper):
                    self.assertIn(path, mask)
            for path in mask.paths:
                rest = Mask([other for other in mask.paths if other != path])
                outside = first_outside(program, rest)
                self.assertTrue(any(other not in rest for other in changed_by(program, outside)))

    def test_the_least_paper_outside_against_all_small_papers(self):
        for schema, chance, papers in chances(250, 2000):
            program = chance.program(4)
            mask = Mask(chance.random.sample(chance.paths, min(len(chance.paths), chance.random.randint(0, 3))))
            told = first_outside(program, mask)
            self.check_least(
                told, lambda paper: any(path not in mask for path in changed_by(program, paper)), papers,
            )
            self.assertIs(told is None, changed(program).within(mask))

    def test_the_least_paper_that_is_changed_against_all_small_papers(self):
        for schema, chance, papers in chances(200, 3000):
            program = chance.program(4)
            told = first_changed(program)
            self.check_least(told, lambda paper: program(paper) != paper, papers)
            self.assertIs(told is None, are_alike(program, Program(schema)))

    def test_alike_programs_have_one_least_mask(self):
        alike = 0
        for schema, chance, papers in chances(300, 4000):
            first = chance.program(4)
            second = chance.near(first)
            if are_alike(first, second):
                alike += 1
                self.assertEqual(changed(first), changed(second))
                mask = Mask(chance.random.sample(chance.paths, 1))
                self.assertEqual(first_outside(first, mask), first_outside(second, mask))
                self.assertEqual(first_changed(first), first_changed(second))
        self.assertGreater(alike, 60)


class HandTest(ChangesTestCase):
    def test_a_leaf_in_a_message(self):
        schema = Schema({"top": {"m": message("m"), "x": NUMBER}, "m": {"a": NUMBER, "b": NUMBER}})
        # The message that is made has a part then, and does not count.
        self.check(schema, (("set", ("m", "a"), 1),), [("m", "a")], {})
        self.check(schema, (("clear", ("m", "a")),), [("m", "a")], {"m": {"a": 0}})
        program = Program(schema, (("set", ("m", "a"), 1),))
        self.assertEqual(first_outside(program, Mask([("m", "b"), ("x",)])).content, {})
        self.assertIsNone(first_outside(program, Mask([("m",)])))
        self.assertIsNone(first_outside(program, Mask([("m", "a")])))

    def test_messages_made_and_emptied(self):
        schema = Schema({"top": {"m": message("m")}, "m": {"a": NUMBER, "n": message("n")}, "n": {"b": NUMBER}})
        self.check(schema, (("set", ("m", "a"), 1), ("clear", ("m", "a"))), [("m",)], {})
        self.check(schema, (("set", ("m",), {}),), [("m",)], {})
        self.check(schema, (when(("has", ("m",)), [("set", ("m",), {})]),), [("m", "a"), ("m", "n")], {"m": {"a": 0}})
        self.check(schema, (("set", ("m", "n"), {}),), [("m", "n")], {})
        self.check(schema, (("clear", ("m",)),), [("m",)], {"m": {}})
        self.check(schema, (("clear", ("m", "n")),), [("m", "n")], {"m": {"n": {}}})
        copies = (("set", ("m", "n"), {}), ("copy", ("m", "a"), ("m", "n", "b")))
        self.check(schema, copies, [("m", "n")], {})
        self.check(schema, (("copy", ("m", "a"), ("m", "n", "b")),), [("m", "n", "b")], {"m": {"a": 0}})

    def test_cleared_and_made_anew(self):
        schema = Schema({"top": {"m": message("m")}, "m": {"a": NUMBER, "b": NUMBER}})
        self.check(schema, (("clear", ("m",)), ("set", ("m", "a"), 1)), [("m", "a"), ("m", "b")], {})
        self.check(schema, (when(("has", ("m",)), [("clear", ("m",)), ("set", ("m", "a"), 1)]),),
                   [("m", "a"), ("m", "b")], {"m": {}})
        self.check(schema, (when(("has", ("m", "a")), [("clear", ("m",)), ("set", ("m",), {})]),),
                   [("m", "a"), ("m", "b")], {"m": {"a": 0}})

    def test_the_other_field_of_a_choice(self):
        schema = Schema({"top": {"m": message("m"), "x": NUMBER, "y": NUMBER}, "m": {"a": NUMBER}}, {"top": [("m", "x")]})
        self.check(schema, (("set", ("m", "a"), 1),), [("m", "a"), ("x",)], {})
        self.check(schema, (("set", ("x",), 0),), [("m",), ("x",)], {})
        self.check(schema, (when(HAS_X, [("set", ("x",), 0)]),), [("x",)], {"x": 1})
        self.check(schema, (when(HAS_X, [("copy", ("x",), ("m", "a"))]),), [("m", "a"), ("x",)], {"x": 0})
        self.check(schema, (when(("has", ("m",)), [("clear", ("x",))]),), [], None)

    def test_maps(self):
        schema = Schema({"top": {"t": ("map", "number"), "x": NUMBER}})
        self.check(schema, (("clear", ("t",)),), [("t",)], {"t": {"a": 0}})
        self.check(schema, (("clear", ("t", "k")),), [("t", "k")], {"t": {"k": 0}})
        self.check(schema, (("set", ("t", "k"), 1),), [("t", "k")], {})
        self.check(schema, (("set", ("t",), {"k": 1}),), [("t",)], {})
        self.check(schema, (("clear", ("t", "k")), ("clear", ("t", "l"))), [("t", "k"), ("t", "l")], {"t": {"k": 0}})
        self.check(schema, (when(("has", ("t", "k")), [("clear", ("t",))]),), [("t",)], {"t": {"k": 0}})
        self.check(schema, (("clear", ("t", "k")), when(("has", ("t",)), [], [("set", ("t", "k"), 0)])), [("t", "k")], {})
        self.check(schema, (when(("has", ("t",)), [], [("clear", ("t",)), ("clear", ("x",))]),), [("x",)], {"x": 0})

    def test_what_stays_as_it_is(self):
        schema = Schema({"top": {"x": NUMBER, "y": NUMBER, "f": FLAG, "t": ("map", "number")}})
        self.check(schema, (), [], None)
        self.check(schema, (when(HAS_X),), [], None)
        self.check(schema, (when(("is", ("x",), 1), [("set", ("x",), 1)]),), [], None)
        self.check(schema, (when(("same", ("x",), ("y",)), [("copy", ("x",), ("y",))]),), [], None)
        self.check(schema, (when(("has", ("t",)), [], [("clear", ("t",))]),), [], None)
        self.check(schema, (("copy", ("x",), ("y",)),), [("y",)], {"x": 0})
        self.check(schema, (("copy", ("x",), ("y",)), ("copy", ("y",), ("x",))), [("y",)], {"x": 0})
        self.check(schema, (("set", ("f",), True),), [("f",)], {})
        self.check(schema, (when(("has", ("f",)), [("set", ("f",), False)]),), [("f",)], {"f": True})

    def test_names_beside_those_of_a_mask(self):
        schema = Schema({"top": {"t": ("map", "flag")}})
        program = Program(schema, (("clear", ("t",)),))
        self.assertEqual(first_outside(program, Mask([("t", "a")])).content, {"t": {"aa": False}})
        self.assertEqual(first_outside(program, Mask([("t", "b")])).content, {"t": {"a": False}})
        self.assertIsNone(first_outside(program, Mask([("t",)])))
        letters = "abcdefghijklmnopqrstuvwxyz"
        names = ["a" * many for many in range(1, 8)] + ["aaaaaaa" + letter for letter in letters]
        for many in (7, 8, 9, 32):
            mask = Mask([("t", name) for name in names[:many]])
            self.assertEqual(first_outside(program, mask).content, {"t": {names[many]: False}})
        mask = Mask([("t", name) for name in names])
        self.assertEqual(first_outside(program, mask).content, {"t": {"aaaaaab": False}})

    def test_masks_that_cover_nothing_or_all(self):
        schema = Schema({"top": {"m": message("m"), "x": NUMBER}, "m": {"a": NUMBER}})
        program = Program(schema, (("clear", ("m",)), ("clear", ("x",))))
        self.assertEqual(first_outside(program, Mask()).content, {"m": {}})
        self.assertEqual(first_outside(program, Mask([("m", "a")])).content, {"m": {}})
        self.assertEqual(first_outside(program, Mask([("m",)])).content, {"x": 0})
        self.assertIsNone(first_outside(program, Mask([("m",), ("x",)])))

    def test_arguments_by_name_and_new_papers(self):
        schema = Schema({"top": {"x": NUMBER}})
        program = Program(schema, (("clear", ("x",)),))
        told = [first_outside(mask=Mask(), program=program), first_changed(program=program)]
        for paper in told:
            self.assertIs(type(paper), Paper)
            paper.clear(("x",))
        self.assertEqual(first_outside(program, Mask()).content, {"x": 0})
        self.assertEqual(first_changed(program).content, {"x": 0})
        mask = changed(program=program)
        mask.paths.clear()
        self.assertEqual(changed(program), Mask([("x",)]))

    def test_as_large_as_programs_may_be(self):
        schema = Schema({
            "top": {"m": message("m"), "n": message("m"), "o": message("m"), "x": NUMBER, "t": ("map", "number")},
            "m": {name: NUMBER for name in "abcdef"},
        })
        steps = [when(("same", ("m", name), ("n", name)), [("set", ("o", name), 1)]) for name in "abcdef"]
        program = Program(schema, steps + [("clear", ("t",))])
        mask = self.check_soon(changed, program)
        self.assertEqual(mask.paths, [("o", name) for name in "abcdef"] + [("t",)])
        self.assertEqual(self.check_soon(first_outside, program, Mask([("o",)])).content, {"t": {"a": 0}})
        self.assertEqual(self.check_soon(first_changed, program).content, {})


if __name__ == "__main__":
    unittest.main()
