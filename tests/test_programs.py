"""Tests of tests, steps and programs ([2], [7], [9])."""

import copy
import itertools
import unittest

from maskwrites.errors import BadProgram, BadStep
from maskwrites.papers import Paper
from maskwrites.programs import Program, holds, is_step, is_test
from maskwrites.schemas import Schema
from tests import flat
from tests.anyvalues import any_values, nested, schema_example
from tests.samples import FEW, FLAG, NUMBER, TEXT, Chance, all_papers, all_paths, message, shapes
from tests.test_papers import full, full_content

SET_X = ("set", ("x",), 1)
CLEAR_X = ("clear", ("x",))
HAS_X = ("has", ("x",))
COPY = ("copy", ("x",), ("y",))


def schema_here():
    return Schema(*schema_example())


def when(test, first=(), second=()):
    return ("when", test, tuple(first), tuple(second))


def good_tests():
    """Return tests of the schema with every kind."""
    return [
        HAS_X, ("has", ("m",)), ("has", ("t",)), ("has", ("t", "k")), ("has", ("m", "n", "c")), ("has", ("m", "e")),
        ("is", ("x",), 0), ("is", ("x",), 10 ** 60 - 1), ("is", ("w",), ""), ("is", ("f",), False),
        ("is", ("t", "k"), "abcdefghijkl"), ("is", ("m", "g", "k"), True), ("is", ("m", "n", "c", "k"), 3),
        ("same", ("x",), ("y",)), ("same", ("y",), ("x",)), ("same", ("x",), ("m", "n", "c", "k")),
        ("same", ("t", "a"), ("t", "b")), ("same", ("w",), ("m", "n", "d")), ("same", ("f",), ("m", "g", "f")),
    ]


def wrong_tests():
    """Return values that are nearly tests of it."""
    return [
        (), ("has",), ("has", ()), ("has", ("z",)), ("has", ("x", "y")), ["has", ("x",)], ("has", ["x"]), ("has", "x"),
        ("has", ("x",), 1), ("Has", ("x",)), (("x",), "has"), "has", ("is", ("x",)), ("is", ("x",), True),
        ("is", ("x",), -1), ("is", ("x",), "a"), ("is", ("x",), None), ("is", ("m",), {}), ("is", ("t",), {"k": "a"}),
        ("is", ("f",), 1), ("is", ("w",), "A"), ("is", ("w",), "abcdefghijklm"), ("is", ("z",), 1), ["is", ("x",), 1],
        ("is", ("x",), 1, 1), ("same", ("x",), ("x",)), ("same", ("x",), ("w",)), ("same", ("x",), ("m",)),
        ("same", ("t",), ("m", "g")), ("same", ("m", "e"), ("m", "e")), ("same", ("t", "a"), ("t", "a")),
        ("same", ("x",)), ("same", ("x",), ("z",)), ("same", ("x",), ["y"]), ("same", ("x",), ("y",), ("y",)),
        ["same", ("x",), ("y",)], ("more", ("t",), ()), ("same", ("f",), ("x",)), ("not", HAS_X),
    ]


def good_steps():
    """Return steps of the schema with every kind."""
    return [
        SET_X, ("set", ("w",), "ab"), ("set", ("f",), False), ("set", ("m",), {}), ("set", ("m", "e"), {}),
        ("set", ("m",), {"a": 1, "n": {"c": {"k": 1}}}), ("set", ("t",), {"k": ""}), ("set", ("t", "k"), "b"),
        CLEAR_X, ("clear", ("m",)), ("clear", ("t",)), ("clear", ("t", "k")), ("clear", ("m", "n", "c", "zz")),
        COPY, ("copy", ("y",), ("x",)), ("copy", ("x",), ("m", "a")), ("copy", ("t", "a"), ("t", "b")),
        ("copy", ("t", "a"), ("w",)), ("copy", ("f",), ("m", "g", "k")), when(HAS_X), when(HAS_X, [SET_X], [CLEAR_X]),
        when(HAS_X, [when(HAS_X, [when(HAS_X, [when(HAS_X, [SET_X] * 20)])])]), when(HAS_X, (), [COPY] * 20),
    ]


def wrong_steps():
    """Return values that are nearly steps of it."""
    return [
        (), ("set",), ("set", ("x",)), ("set", ("x",), None), ("set", ("x",), True), ("set", ("x",), -1),
        ("set", ("z",), 1), ("set", (), {}), ("set", ("t",), {}), ("set", ("t",), None), ("set", ("m",), {"z": 1}),
        ("set", ("m",), {"e": {}, "n": {}}), ("set", ["x"], 1), ["set", ("x",), 1], ("set", ("x",), 1, 1),
        ("Set", ("x",), 1), ("set", "x", 1), ("set", ("m", "n", "c"), {"k": True}), ("set", ("m", "n", "c"), {}),
        ("clear",), ("clear", ()), ("clear", ("z",)), ("clear", ("x", "y")), ("clear", ("x",), 1), ["clear", ("x",)],
        ("clear", ["x"]), ("clear", "x"), ("copy", ("x",)), ("copy", ("x",), ("x",)), ("copy", ("x",), ("w",)),
        ("copy", ("x",), ("m",)), ("copy", ("m",), ("m", "n")), ("copy", ("t",), ("m", "g")), ("copy", ("x",), ("z",)),
        ["copy", ("x",), ("y",)], ("copy", ("x",), ("y",), ("y",)), ("copy", ("t", "a"), ("t", "a")),
        ("when",), ("when", HAS_X), ("when", HAS_X, ()), ("when", HAS_X, (), (), ()), ("when", HAS_X, [], ()),
        ("when", HAS_X, (), []), ("when", HAS_X, [SET_X], ()), ["when", HAS_X, (), ()], ("when", (), (), ()),
        ("when", ("has", ("z",)), (), ()), ("when", HAS_X, (("set", ("x",), True),), ()), ("when", HAS_X, SET_X, ()),
        ("when", HAS_X, (), (SET_X, ())), ("when", HAS_X, (when(("is", ("x",), None)),), ()), ("when", None, (), ()),
        ("when", HAS_X, None, ()), ("when", HAS_X, (), None), ("when", SET_X, (), ()), HAS_X,
        ("when", ["has", ("x",)], (), ()), ("none",), "set", None,
    ]


def more_any_values():
    return any_values() + [
        nested(lambda value: ("when", HAS_X, (value,), ()), 50), nested(lambda value: ("set", ("m",), value), 50),
        nested(lambda value: ("has", value)), nested(lambda value: ("clear", (value,)), 50),
    ]


class JudgingTest(unittest.TestCase):
    def test_tests(self):
        schema = schema_here()
        for value in good_tests():
            self.assertIs(is_test(schema, value), True, value)
        for value in wrong_tests() + more_any_values() + good_steps():
            self.assertIs(is_test(schema, value), False, value)

    def test_steps(self):
        schema = schema_here()
        for value in good_steps():
            self.assertIs(is_step(schema, value), True, value)
        for value in wrong_steps() + more_any_values() + good_tests():
            self.assertIs(is_step(schema, value), False, value)

    def test_any_value_in_a_test_or_step(self):
        schema = schema_here()
        for value in more_any_values():
            path = schema.is_path(value)
            self.assertIs(is_test(schema, ("has", value)), path)
            self.assertIs(is_step(schema, ("clear", value)), path)
            self.assertIs(is_test(schema, ("is", ("x",), value)), schema.is_value(("x",), value))
            self.assertIs(is_step(schema, ("set", ("m",), value)), schema.is_value(("m",), value))
            self.assertIs(is_test(schema, ("same", ("x",), value)), value == ("y",))
            self.assertIs(is_step(schema, ("copy", ("x",), value)), value == ("y",))
            self.assertIs(is_step(schema, ("when", value, (), ())), False)
            self.assertIs(is_step(schema, ("when", HAS_X, value, ())), value == ())
            self.assertIs(is_step(schema, ("when", HAS_X, (), (SET_X, value))), False)

    def test_values_stay(self):
        schema = schema_here()
        for value in good_tests() + wrong_tests() + good_steps() + wrong_steps() + more_any_values():
            kept = copy.deepcopy(value)
            is_test(schema, value)
            is_step(schema, value)
            self.assertEqual(value, kept)

    def test_a_step_may_be_more_than_a_program(self):
        step = when(HAS_X, [SET_X] * 17)
        self.assertIs(is_step(schema_here(), step), True)
        with self.assertRaises(BadProgram):
            Program(schema_here(), [step])

    def test_arguments_by_name(self):
        schema = schema_here()
        self.assertIs(is_test(value=HAS_X, schema=schema), True)
        self.assertIs(is_step(value=HAS_X, schema=schema), False)
        self.assertIs(holds(paper=Paper(schema), test=HAS_X), False)


class HoldsTest(unittest.TestCase):
    def test_all_small_papers(self):
        for number, (schema, values, names) in enumerate(shapes()):
            chance = Chance(number, schema, FEW, names[:2])
            tests = [chance.test() for _ in range(25)]
            for paper in all_papers(schema, FEW, names[:2]):
                kept = paper.content
                for test in tests:
                    self.assertIs(holds(test, paper), flat.comes_out(flat.parts_of(paper), test))
                self.assertEqual(paper.content, kept)

    def test_by_hand(self):
        paper = full()
        told = {
            HAS_X: True, ("has", ("m", "n", "c")): True, ("has", ("t",)): False, ("has", ("m", "e")): False,
            ("has", ("m", "n", "c", "z")): False, ("is", ("x",), 3): True, ("is", ("x",), 4): False,
            ("is", ("y",), 0): False, ("is", ("f",), False): True, ("is", ("m", "g", "k"), False): False,
            ("same", ("x",), ("y",)): False, ("same", ("y",), ("m", "n", "c", "z")): True,
            ("same", ("m", "a"), ("m", "n", "t")): False, ("same", ("t", "a"), ("w",)): True,
            ("is", ("m", "n", "d"), "ab"): True, ("same", ("f",), ("m", "b")): False,
        }
        for test, answer in told.items():
            self.assertIs(holds(test, paper), answer, test)
        paper[("m", "n", "t")] = 1
        self.assertIs(holds(("same", ("m", "a"), ("m", "n", "t")), paper), True)

    def test_a_map_or_a_message_without_parts(self):
        schema = Schema({"top": {"m": message("m"), "t": ("map", "text")}, "m": {}})
        self.assertIs(holds(("has", ("m",)), Paper(schema, {"m": {}})), True)
        paper = Paper(schema, {"t": {"k": ""}})
        self.assertIs(holds(("has", ("t",)), paper), True)
        paper.clear(("t", "k"))
        self.assertIs(holds(("has", ("t",)), paper), False)


class MakingTest(unittest.TestCase):
    def check_bad_step(self, steps, wrong):
        with self.assertRaises(BadStep) as caught:
            Program(schema_here(), steps)
        self.assertIs(caught.exception.value, wrong)

    def check_too_many(self, steps):
        for told in (tuple(steps), list(steps)):
            with self.assertRaises(BadProgram) as caught:
                Program(schema_here(), told)
            self.assertIs(type(caught.exception.value), tuple)
            self.assertEqual(caught.exception.value, tuple(steps))

    def check_good(self, steps):
        for told in (tuple(steps), list(steps)):
            self.assertEqual(Program(schema_here(), told).steps, tuple(steps))

    def test_no_steps(self):
        schema = schema_here()
        for program in (Program(schema), Program(schema, ()), Program(schema, []), Program(steps=(), schema=schema)):
            self.assertEqual(program.steps, ())
            self.assertEqual(program.schema, schema)

    def test_the_first_one_that_is_none(self):
        for wrong in wrong_steps() + more_any_values() + good_tests():
            self.check_bad_step([wrong], wrong)
            self.check_bad_step((SET_X, wrong, ("none",)), wrong)
            self.check_bad_step([SET_X] * 20 + [wrong], wrong)

    def test_the_whole_step_of_a_when(self):
        wrong = when(HAS_X, [SET_X, when(HAS_X, [("set", ("x",), True)])])
        self.check_bad_step([SET_X, wrong, ("none",)], wrong)

    def test_sixteen_steps(self):
        self.check_good([SET_X] * 16)
        self.check_too_many([SET_X] * 17)
        self.check_good([when(HAS_X, [SET_X] * 8, [CLEAR_X] * 7)])
        self.check_too_many([when(HAS_X, [SET_X] * 8, [CLEAR_X] * 8)])
        self.check_good([SET_X] * 9 + [when(HAS_X, [when(HAS_X, [SET_X] * 3)], [CLEAR_X] * 2)])
        self.check_too_many([SET_X] * 10 + [when(HAS_X, [when(HAS_X, [SET_X] * 3)], [CLEAR_X] * 2)])

    def test_six_that_copy_or_are_when(self):
        self.check_good([COPY] * 6)
        self.check_too_many([COPY] * 7)
        self.check_good([when(HAS_X)] * 6)
        self.check_too_many([when(HAS_X)] * 7)
        self.check_good([when(HAS_X, [COPY, when(HAS_X, [], [COPY])], [COPY]), COPY])
        self.check_too_many([when(HAS_X, [COPY, when(HAS_X, [COPY], [COPY])], [COPY]), COPY])
        self.check_good([when(HAS_X, [COPY] * 2, [COPY] * 3)] + [SET_X] * 10)
        self.check_too_many([when(HAS_X, [COPY] * 3, [COPY] * 3)])

    def test_three_deep(self):
        three = when(HAS_X, [when(HAS_X, [], [when(HAS_X, [SET_X])])])
        self.check_good([three])
        self.check_good([SET_X, three, three])
        self.check_too_many([when(HAS_X, [], [three])])
        self.check_too_many([SET_X, when(HAS_X, [three])])
        self.check_too_many([when(HAS_X, [when(HAS_X, [when(HAS_X, [when(HAS_X)])])])])

    def test_what_was_handed_in_may_be_changed(self):
        value = {"a": 1, "n": {"c": {"k": 1}}}
        inner = {"k": "a"}
        steps = [("set", ("m",), value), when(HAS_X, [("set", ("t",), inner)])]
        program = Program(schema_here(), steps)
        kept = copy.deepcopy(tuple(steps))
        value["n"]["c"]["k"] = 2
        inner.clear()
        steps.clear()
        self.assertEqual(program.steps, kept)
        self.assertEqual(program(Paper(schema_here(), {"x": 1})).content, {"x": 1, "t": {"k": "a"}})

    def test_what_is_told_is_new(self):
        steps = (("set", ("m",), {"n": {"c": {"k": 1}}}), when(HAS_X, [("set", ("t",), {"k": "a"})]))
        program = Program(schema_here(), steps)
        program.steps[0][2]["n"]["c"].clear()
        program.steps[0][2].clear()
        program.steps[1][2][0][2].clear()
        self.assertEqual(program.steps, steps)
        self.assertIs(type(program.steps), tuple)
        self.assertEqual(program(Paper(schema_here())).content, {"m": {"n": {"c": {"k": 1}}}})

    def test_equality(self):
        programs = [Program(schema_here(), [step]) for step in good_steps()[:-2]] + [
            Program(schema_here()), Program(schema_here(), [SET_X, CLEAR_X]), Program(schema_here(), [CLEAR_X, SET_X]),
            Program(Schema({"top": {"x": NUMBER}}), [SET_X]), Program(Schema({"top": {"x": NUMBER}})),
            Program(Schema({"top": {"x": FLAG}}), [("set", ("x",), True)]),
        ]
        for first, second in itertools.product(range(len(programs)), repeat=2):
            self.assertIs(programs[first] == programs[second], first == second)
            self.assertIs(programs[first] != programs[second], first != second)
        turned = Program(schema_here(), [("set", ("m",), {"n": {"c": {"k": 1}}, "a": 1})])
        self.assertIn(turned, programs)
        self.assertEqual(repr(turned.steps), repr(programs[programs.index(turned)].steps))

    def test_equality_with_any_value(self):
        program = Program(schema_here(), [SET_X])
        for value in any_values() + [program.steps, Program, object()]:
            self.assertIs(program == value, False)
            self.assertIs(program != value, True)


class DoingTest(unittest.TestCase):
    def check(self, steps, before, after, schema=None):
        schema = schema_here() if schema is None else schema
        paper = Paper(schema, before)
        made = Program(schema, steps)(paper)
        self.assertEqual(made.content, after)
        self.assertEqual(paper.content, before)
        return made

    def test_the_example_of_the_document(self):
        schema = Schema({"top": {"x": NUMBER, "m": message("m")}, "m": {"a": NUMBER}})
        program = Program(schema, (("copy", ("x",), ("m", "a")), ("clear", ("x",))))
        self.assertEqual(
            [program(Paper(schema, {"x": 3})).content, program(Paper(schema)).content], [{"m": {"a": 3}}, {}],
        )

    def test_a_step_into_a_message_under_a_choice(self):
        self.check([("set", ("m", "n", "d"), "a")], {"t": {"k": "a"}, "x": 1}, {"m": {"n": {"d": "a"}}, "x": 1})
        self.check([("set", ("m", "g", "k"), True)], {"w": "a"}, {"m": {"g": {"k": True}}})
        self.check([("set", ("m", "g", "k"), True)], {"m": {"n": {}, "a": 1}}, {"m": {"g": {"k": True}, "a": 1}})
        self.check([("copy", ("x",), ("m", "n", "t"))], {"x": 4, "w": ""}, {"x": 4, "m": {"n": {"t": 4}}})

    def test_a_copy_of_an_unset_leaf(self):
        self.check([("copy", ("x",), ("m", "a"))], {"m": {"a": 1}}, {"m": {}})
        self.check([("copy", ("x",), ("m", "a"))], {"w": ""}, {"w": ""})
        self.check([("copy", ("x",), ("m", "n", "c", "k"))], {"m": {"n": {"c": {"k": 1}}}}, {"m": {"n": {}}})

    def test_a_copy_from_what_the_copy_itself_clears(self):
        self.check([COPY], {"x": 7}, {"y": 7})
        self.check([("copy", ("t", "k"), ("w",))], {"t": {"k": "a", "l": "b"}}, {"w": "a"})
        self.check([("copy", ("t", "k"), ("m", "n", "d"))], {"t": {"k": "a"}}, {"m": {"n": {"d": "a"}}})
        self.check([COPY], {"y": 7}, {})

    def test_a_map_that_goes_with_its_last_name(self):
        steps = [("clear", ("t", "k")), when(("has", ("t",)), [("set", ("f",), True)], [("set", ("f",), False)])]
        self.check(steps, {"t": {"k": ""}}, {"f": False})
        self.check(steps, {"t": {"k": "", "l": ""}}, {"t": {"l": ""}, "f": True})

    def test_a_message_set_as_a_whole(self):
        self.check([("set", ("m",), {"b": True})], {"m": {"a": 1, "n": {}}, "x": 1}, {"m": {"b": True}, "x": 1})
        self.check([("set", ("m",), {})], {"t": {"k": ""}}, {"m": {}})
        self.check([("set", ("m", "e"), {})], {"m": {"g": {"k": True}}}, {"m": {"e": {}}})
        self.check([("set", ("t",), {"k": "a"})], {"t": {"l": "b"}}, {"t": {"k": "a"}})

    def test_a_test_on_what_was_just_written(self):
        steps = [SET_X, when(("is", ("x",), 1), [("set", ("f",), True)])]
        self.check(steps, {}, {"x": 1, "f": True})
        steps = [("set", ("y",), 0), when(HAS_X, [("set", ("f",), True)])]
        self.check(steps, {"x": 1}, {"y": 0})
        steps = [("copy", ("x",), ("m", "a")), when(("same", ("x",), ("m", "a")), [CLEAR_X])]
        self.check(steps, {"x": 2}, {"m": {"a": 2}})
        self.check(steps, {"m": {"a": 1}}, {"m": {}})

    def test_by_chance(self):
        for number in range(200):
            schema, values, names = shapes()[number % len(shapes())]
            chance = Chance(number, schema, FEW, names[:2])
            program = chance.program(6)
            papers = all_papers(schema, FEW, names[:2])
            for paper in papers[::max(1, len(papers) // 40)]:
                before = flat.parts_of(paper)
                made = program(paper)
                self.assertEqual(flat.parts_of(made), flat.done(schema, program.steps, before))
                self.assertEqual(flat.parts_of(paper), before)
                self.assertEqual(made.schema, schema)

    def test_the_result_is_a_paper_of_its_own(self):
        program = Program(schema_here(), [("set", ("t",), {"k": "a"})])
        paper = Paper(schema_here(), {"x": 1})
        made = program(paper)
        made[("t", "k")] = "b"
        made.clear(("x",))
        self.assertEqual(paper.content, {"x": 1})
        self.assertEqual(program(paper).content, {"x": 1, "t": {"k": "a"}})
        same = Program(schema_here())(paper)
        self.assertEqual(same, paper)
        self.assertIsNot(same, paper)
        same.clear(("x",))
        self.assertEqual(paper.content, {"x": 1})

    def test_arguments_by_name(self):
        self.assertEqual(Program(schema_here())(paper=full()), full())


class TogetherTest(unittest.TestCase):
    def test_both_in_sequence(self):
        schema = schema_here()
        first = Program(schema, [SET_X, COPY])
        second = Program(schema, [CLEAR_X])
        self.assertEqual((first + second).steps, (SET_X, COPY, CLEAR_X))
        self.assertEqual((second + first).steps, (CLEAR_X, SET_X, COPY))
        self.assertEqual((first.steps, second.steps), ((SET_X, COPY), (CLEAR_X,)))
        self.assertEqual((first + Program(schema)), first)
        self.assertEqual((first + second)(full()), second(first(full())))
        self.assertIs(type(first + second), Program)

    def test_too_many_together(self):
        schema = schema_here()
        for one, two in (([SET_X] * 16, [CLEAR_X]), ([COPY] * 3, [when(HAS_X)] * 4), ([SET_X] * 9, [CLEAR_X] * 8)):
            first, second = Program(schema, one), Program(schema, two)
            with self.assertRaises(BadProgram) as caught:
                first + second
            self.assertEqual(caught.exception.value, tuple(one + two))
            self.assertEqual((first.steps, second.steps), (tuple(one), tuple(two)))
        self.assertEqual(len((Program(schema, [SET_X] * 8) + Program(schema, [CLEAR_X] * 8)).steps), 16)
        self.assertEqual(len((Program(schema, [COPY] * 3) + Program(schema, [when(HAS_X)] * 3)).steps), 6)

    def test_a_step_with_a_test_does_what_the_chosen_steps_do(self):
        for number in range(60):
            schema, values, names = shapes()[number % len(shapes())]
            chance = Chance(number, schema, FEW, names[:2])
            test, first, second = chance.test(), (chance.step(3),), (chance.step(3),)
            program = Program(schema, (when(test, first, second),))
            for paper in all_papers(schema, FEW, names[:1])[::3]:
                chosen = first if holds(test, paper) else second
                self.assertEqual(program(paper), Program(schema, chosen)(paper))

    def test_step_by_step(self):
        for number in range(100, 160):
            schema, values, names = shapes()[number % len(shapes())]
            program = Chance(number, schema, FEW, names[:2]).program(5)
            for paper in all_papers(schema, FEW, names[:1])[::3]:
                told = paper
                for step in program.steps:
                    told = Program(schema, (step,))(told)
                self.assertEqual(told, program(paper))

    def test_setting_all_parts_of_a_paper(self):
        for schema, values, names in shapes():
            for paper in all_papers(schema, FEW, names[:1])[::5]:
                steps = [("set", path, {} if flat.is_message(schema, path) else paper[path]) for path in paper.parts()]
                self.assertEqual(Program(schema, steps)(Paper(schema)), paper)

    def test_clearing_all_paths(self):
        schema = schema_here()
        paper = full()
        for path in all_paths(schema, ("k", "l")):
            program = Program(schema, (("clear", path),))
            told = paper.copy()
            told.clear(path)
            self.assertEqual(program(paper), told)
        self.assertEqual(paper.content, full_content())

    def test_texts_and_numbers_as_long_as_they_may_be(self):
        schema = Schema({"top": {"w": TEXT, "v": TEXT, "x": NUMBER, "y": NUMBER}})
        most = 10 ** 60 - 1
        steps = (
            when(("is", ("x",), most), [("copy", ("x",), ("y",))]), when(("is", ("w",), "z" * 12), [("clear", ("w",))]),
            ("set", ("v",), "abcdefghijkl"),
        )
        made = Program(schema, steps)(Paper(schema, {"x": most, "w": "z" * 12}))
        self.assertEqual(made.content, {"x": most, "y": most, "v": "abcdefghijkl"})


if __name__ == "__main__":
    unittest.main()
