"""Tests of programs in either order, of doing them twice, and of steps to spare ([2], [3], [6], [7], [9])."""

import unittest

from maskwrites.alike import are_alike
from maskwrites.orders import first_parted, first_unsteady, spare_steps
from maskwrites.papers import Paper
from maskwrites.programs import Program
from maskwrites.schemas import Schema
from tests.leastness import LeastTestCase, chances, when
from tests.samples import FLAG, NUMBER, TEXT, message

SET_X = ("set", ("x",), 1)
HAS_X = ("has", ("x",))


def without(program, place):
    return Program(program.schema, program.steps[:place] + program.steps[place + 1:])


class AllPapersTest(LeastTestCase):
    def test_the_example_of_the_document(self):
        schema = Schema({"top": {"x": NUMBER, "y": NUMBER}}, {"top": [("x", "y")]})
        one = Program(schema, (SET_X,))
        two = Program(schema, (("clear", ("x",)), ("set", ("y",), 1)))
        self.assertEqual(
            [first_parted(one, two).content, first_unsteady(two), spare_steps(two)], [{}, None, [0]],
        )

    def test_parted_against_all_small_papers(self):
        for schema, chance, papers in chances(250, 6000):
            first, second = chance.program(3), chance.program(3)
            told = first_parted(first, second)
            self.check_least(told, lambda paper: second(first(paper)) != first(second(paper)), papers)
            self.assertEqual(first_parted(second, first), told)

    def test_unsteady_against_all_small_papers(self):
        for schema, chance, papers in chances(250, 7000):
            program = chance.program(4)
            told = first_unsteady(program)
            self.check_least(told, lambda paper: program(program(paper)) != program(paper), papers)

    def test_spare_steps_against_all_small_papers(self):
        for schema, chance, papers in chances(150, 8000):
            program = chance.program(5)
            spare = spare_steps(program)
            for place in range(len(program.steps)):
                other = without(program, place)
                self.assertIs(place in spare, are_alike(program, other))
                if place in spare:
                    for paper in papers:
                        self.assertEqual(program(paper), other(paper))


class PartedTest(LeastTestCase):
    def check(self, schema, first, second, content):
        one, two = Program(schema, first), Program(schema, second)
        for told in (first_parted(one, two), first_parted(two, one)):
            self.assertEqual(None if told is None else told.content, content)

    def test_by_hand(self):
        schema = Schema({"top": {"x": NUMBER, "y": NUMBER, "z": NUMBER, "m": message("m"), "t": ("map", "number")},
                         "m": {"a": NUMBER, "b": NUMBER}})
        copy = ("copy", ("x",), ("y",))
        self.check(schema, (), (), None)
        self.check(schema, (SET_X,), (), None)
        self.check(schema, (SET_X,), (SET_X,), None)
        self.check(schema, (SET_X,), (("set", ("x",), 2),), {})
        self.check(schema, (SET_X,), (("clear", ("x",)),), {})
        self.check(schema, (SET_X,), (("set", ("y",), 2),), None)
        self.check(schema, (SET_X,), (copy,), {})
        self.check(schema, (("clear", ("x",)),), (copy,), {"x": 0})
        self.check(schema, (copy,), (("copy", ("y",), ("z",)),), {"x": 0})
        self.check(schema, (copy,), (("copy", ("x",), ("z",)),), None)
        self.check(schema, (when(HAS_X, [("set", ("y",), 0)]),), (("clear", ("x",)),), {"x": 0})
        self.check(schema, (when(("is", ("x",), 3), [("set", ("y",), 0)]),), (("clear", ("x",)),), {"x": 3})
        self.check(schema, (when(("is", ("x",), 1), [("set", ("y",), 0)]),), (SET_X,), {})
        self.check(schema, (("clear", ("t", "k")),), (when(("has", ("t",)), [SET_X]),), {"t": {"k": 0}})
        self.check(schema, (("clear", ("t",)),), (when(("has", ("t",)), [SET_X]),), {"t": {"a": 0}})
        self.check(schema, (("clear", ("m", "a")),), (when(("has", ("m",)), [SET_X]),), None)
        self.check(schema, (("clear", ("m",)),), (("set", ("m", "a"), 0),), {})
        self.check(schema, (("set", ("m", "a"), 0),), (("set", ("m", "b"), 0),), None)
        self.check(schema, (("set", ("m",), {"a": 0}),), (("set", ("m", "b"), 0),), {})
        self.check(schema, (("set", ("m",), {"a": 0}),), (("set", ("m", "a"), 0),), None)

    def test_choices(self):
        schema = Schema({"top": {"x": NUMBER, "y": NUMBER, "f": FLAG}}, {"top": [("x", "y")]})
        self.check(schema, (SET_X,), (("set", ("y",), 1),), {})
        self.check(schema, (when(HAS_X, [("set", ("x",), 0)]),), (("set", ("y",), 1),), None)
        self.check(schema, (when(HAS_X, [("set", ("f",), True)]),), (("set", ("y",), 1),), {"x": 0})

    def test_together_more_than_one_program_may_have(self):
        schema = Schema({
            "top": {"m": message("m"), "n": message("m"), "o": message("m"), "x": NUMBER, "y": NUMBER, "z": NUMBER},
            "m": {name: NUMBER for name in "abcdef"},
        })
        sets = [("set", ("m", name), 1) for name in "abcdef"] * 2
        others = [("set", ("n", name), 1) for name in "abcdef"] * 2
        one = Program(schema, sets + [("copy", ("x",), ("y",))])
        two = Program(schema, others + [("copy", ("x",), ("z",))])
        self.assertIsNone(self.check_soon(first_parted, one, two))
        three = Program(schema, others + [("copy", ("m", "f"), ("z",))])
        self.assertEqual(self.check_soon(first_parted, one, three).content, {})
        copies = [("copy", ("m", name), ("n", name)) for name in "abcde"]
        tests = [when(("same", ("n", name), ("o", name)), [("set", ("x",), 0)], [("set", ("x",), 0)]) for name in "abcde"]
        self.assertIsNone(self.check_soon(first_parted, Program(schema, copies), Program(schema, tests)))
        self.assertIsNone(self.check_soon(first_unsteady, Program(schema, copies)))
        tests[4] = when(("same", ("n", "e"), ("o", "e")), [("set", ("x",), 0)], [("set", ("x",), 1)])
        told = self.check_soon(first_parted, Program(schema, copies), Program(schema, tests))
        self.assertEqual(told.content, {"m": {"e": 0}})

    def test_arguments_by_name_and_new_papers(self):
        schema = Schema({"top": {"x": NUMBER}})
        one, two = Program(schema, (SET_X,)), Program(schema, (("clear", ("x",)),))
        told = first_parted(second=two, first=one)
        self.assertIs(type(told), Paper)
        told[("x",)] = 5
        self.assertEqual(first_parted(one, two), Paper(schema))
        self.assertEqual((one.steps, two.steps), ((SET_X,), (("clear", ("x",)),)))


class UnsteadyTest(LeastTestCase):
    def check(self, schema, steps, content):
        told = first_unsteady(Program(schema, steps))
        self.assertEqual(None if told is None else told.content, content)

    def test_by_hand(self):
        schema = Schema({"top": {"x": NUMBER, "y": NUMBER, "z": NUMBER, "t": ("map", "number")}})
        self.check(schema, (), None)
        self.check(schema, (SET_X,), None)
        self.check(schema, (("copy", ("x",), ("y",)),), None)
        self.check(schema, (("copy", ("x",), ("y",)), ("copy", ("z",), ("x",))), {"x": 0})
        self.check(schema, (("copy", ("x",), ("y",)), ("clear", ("x",))), {"x": 0})
        self.check(schema, (when(HAS_X, [("clear", ("x",))], [SET_X]),), {})
        self.check(schema, (when(("is", ("x",), 4), [("set", ("x",), 5)], [when(("is", ("x",), 5), [
            ("clear", ("x",))])]),), {"x": 4})
        self.check(schema, (when(("has", ("t", "k")), [("clear", ("t", "k"))], [("clear", ("t",))]),),
                   {"t": {"a": 0, "k": 0}})
        self.check(schema, (when(HAS_X, [SET_X]),), None)

    def test_values_as_long_as_they_may_be(self):
        schema = Schema({"top": {"x": NUMBER, "w": TEXT}})
        most = 10 ** 60 - 1
        steps = (when(("is", ("x",), most), [("set", ("x",), most - 1)], [when(("is", ("x",), most - 1), [
            ("clear", ("x",))])]),)
        self.check(schema, steps, {"x": most})
        steps = (when(("is", ("w",), "z" * 12), [("set", ("w",), "y" * 12)], [when(("is", ("w",), "y" * 12), [
            ("clear", ("w",))])]),)
        self.check(schema, steps, {"w": "z" * 12})

    def test_several_values_of_one_leaf(self):
        schema = Schema({"top": {"x": NUMBER}})
        steps = ()
        for value in (1, 3, 5, 7):
            steps += (when(("is", ("x",), value), [("set", ("x",), value - 1)]),)
        self.check(schema, steps, None)
        turned = tuple(reversed(steps))
        self.check(schema, turned, None)
        chain = ()
        for value in (1, 2, 3):
            chain += (when(("is", ("x",), value), [("set", ("x",), value - 1)]),)
        self.check(schema, chain, {"x": 2})
        self.check(schema, tuple(reversed(chain)), None)

    def test_arguments_by_name(self):
        schema = Schema({"top": {"x": NUMBER}})
        program = Program(schema, (when(HAS_X, [("clear", ("x",))], [SET_X]),))
        told = first_unsteady(program=program)
        told[("x",)] = 1
        self.assertEqual(first_unsteady(program), Paper(schema))


class SpareTest(LeastTestCase):
    def check(self, schema, steps, places):
        told = spare_steps(Program(schema, steps))
        self.assertIs(type(told), list)
        self.assertEqual(told, places)

    def test_by_hand(self):
        schema = Schema({"top": {"x": NUMBER, "y": NUMBER, "z": NUMBER}}, {"top": [("x", "y")]})
        clear = ("clear", ("x",))
        self.check(schema, (), [])
        self.check(schema, (SET_X,), [])
        self.check(schema, (SET_X, SET_X), [0, 1])
        self.check(schema, (SET_X, clear), [])
        self.check(schema, (clear, SET_X), [0])
        self.check(schema, (clear, clear, clear), [0, 1, 2])
        self.check(schema, (SET_X, ("set", ("x",), 2)), [0])
        self.check(schema, (("clear", ("y",)), SET_X, ("set", ("z",), 0)), [0])
        self.check(schema, (SET_X, ("clear", ("y",))), [1])
        self.check(schema, (when(HAS_X), ("set", ("z",), 0)), [0])
        self.check(schema, (SET_X, when(("is", ("x",), 1), [("set", ("z",), 0)])), [])
        self.check(schema, (SET_X, when(("is", ("x",), 2), [("set", ("z",), 0)])), [1])

    def test_steps_within_when_are_not_looked_at(self):
        schema = Schema({"top": {"x": NUMBER, "y": NUMBER}})
        self.check(schema, (when(HAS_X, [SET_X, SET_X]),), [])
        self.check(schema, (when(HAS_X, [], [("clear", ("x",))]), ("clear", ("y",))), [0])

    def test_a_new_list_each_time(self):
        schema = Schema({"top": {"x": NUMBER}})
        program = Program(schema, (SET_X, SET_X))
        spare_steps(program=program).clear()
        self.assertEqual(spare_steps(program), [0, 1])

    def test_as_many_steps_as_there_may_be(self):
        schema = Schema({"top": {"x": NUMBER, "y": NUMBER, "m": message("m")}, "m": {name: NUMBER for name in "abcdef"}})
        copies = [("copy", ("x",), ("m", name)) for name in "abcdef"]
        sets = [("set", ("m", name), 0) for name in "abcdef"]
        told = self.check_soon(spare_steps, Program(schema, sets + copies + [SET_X] * 4))
        self.assertEqual(told, [0, 1, 2, 3, 4, 5, 12, 13, 14, 15])
        self.assertEqual(self.check_soon(spare_steps, Program(schema, copies + sets)), [0, 1, 2, 3, 4, 5])


if __name__ == "__main__":
    unittest.main()
