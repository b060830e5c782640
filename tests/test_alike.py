"""Tests of programs that are alike, and of the least papers that they change otherwise ([3], [6], [7], [9])."""

import time
import unittest

from maskwrites.alike import are_alike, first_unlike
from maskwrites.papers import Paper
from maskwrites.programs import Program
from maskwrites.schemas import Schema
from tests.anyvalues import schema_example
from tests.leastness import LeastTestCase, chances, when
from tests.samples import FLAG, NUMBER, TEXT, message

SET_X = ("set", ("x",), 1)
HAS_X = ("has", ("x",))


class UnlikeTestCase(LeastTestCase):
    def check(self, schema, first, second, content):
        """Check what two rows of steps first change otherwise, None for nothing."""
        one, two = Program(schema, first), Program(schema, second)
        for told in (first_unlike(one, two), first_unlike(two, one)):
            if content is None:
                self.assertIsNone(told)
            else:
                self.check_content(told, content)
                self.assertNotEqual(one(told), two(told))
        self.assertIs(are_alike(one, two), content is None)
        self.assertIs(are_alike(two, one), content is None)


class TogetherTest(UnlikeTestCase):
    def test_the_example_of_the_document(self):
        schema = Schema({"top": {"m": message("m")}, "m": {"a": NUMBER, "b": NUMBER}})
        set_a = ("set", ("m", "a"), 0)
        self.check(schema, (set_a, ("clear", ("m", "a"))), (), {})
        self.check(schema, (set_a,), (("set", ("m",), {"a": 0}),), {"m": {"b": 0}})
        self.check(schema, (set_a, set_a), (set_a,), None)

    def test_against_all_small_papers(self):
        for schema, chance, papers in chances(300):
            first = chance.program(4)
            second = chance.near(first) if chance.random.random() < 0.6 else chance.program(4)
            told = first_unlike(first, second)
            self.check_least(told, lambda paper: first(paper) != second(paper), papers)
            self.assertEqual(first_unlike(second, first), told)
            self.assertIs(are_alike(first, second), told is None)

    def test_a_new_paper_each_time(self):
        schema = Schema({"top": {"x": NUMBER, "t": ("map", "number")}})
        first, second = Program(schema, (("clear", ("t",)),)), Program(schema)
        told = first_unlike(first, second)
        told[("x",)] = 3
        told.clear(("t",))
        self.check_content(first_unlike(first, second), {"t": {"a": 0}})
        self.assertIs(type(told), Paper)
        self.assertEqual(told.schema, schema)

    def test_arguments_by_name(self):
        schema = Schema({"top": {"x": NUMBER}})
        one, two = Program(schema), Program(schema, (SET_X,))
        self.assertEqual(first_unlike(second=two, first=one), Paper(schema))
        self.assertIs(are_alike(second=two, first=one), False)
        self.assertIs(are_alike(first=one, second=one), True)


class AlikeTest(UnlikeTestCase):
    def test_written_otherwise(self):
        schema = Schema(*schema_example())
        copy = ("copy", ("x",), ("m", "a"))
        test = ("has", ("m", "n", "c"))
        pairs = [
            ((SET_X, SET_X), (SET_X,)),
            ((copy, copy), (copy,)),
            ((("clear", ("x",)), SET_X), (SET_X,)),
            ((("clear", ("y",)), SET_X), (SET_X,)),
            ((("clear", ("t", "k")), ("set", ("t",), {"k": "a"})), (("set", ("t",), {"k": "a"}),)),
            ((when(test, [SET_X], [SET_X]),), (SET_X,)),
            ((when(test, [SET_X, copy], [SET_X, copy]),), (SET_X, copy)),
            ((when(test),), ()),
            ((when(HAS_X, [copy], [SET_X]),), (when(HAS_X, [copy], [when(HAS_X, [copy], [SET_X])]),)),
            ((when(("same", ("x",), ("y",)), [SET_X]),), (when(("same", ("y",), ("x",)), [SET_X]),)),
            ((when(("is", ("f",), True), [SET_X], [when(("is", ("f",), False), [], [SET_X])]),),
             (when(("is", ("f",), False), [], [SET_X]),)),
            ((when(("is", ("x",), 3), [("copy", ("x",), ("m", "a"))]),),
             (when(("is", ("x",), 3), [("set", ("m", "a"), 3)]),)),
            ((("set", ("m", "n", "d"), "a"), ("set", ("m", "n", "t"), 1)),
             (("set", ("m", "n", "t"), 1), ("set", ("m", "n", "d"), "a"))),
            ((("set", ("m", "e"), {}), ("set", ("m", "g"), {"k": True}), ("clear", ("m", "g"))),
             (("set", ("m", "e"), {}), ("clear", ("m", "e")), ("clear", ("m", "g")), ("clear", ("m", "n")))),
            ((when(HAS_X, [("clear", ("y",))]),), ()),
            ((when(("has", ("m", "a")), [when(("has", ("m",)), [SET_X])]),), (when(("has", ("m", "a")), [SET_X]),)),
            ((("set", ("t", "k"), "a"), when(("has", ("t",)), [SET_X])), (("set", ("t", "k"), "a"), SET_X)),
            ((when(("same", ("f",), ("m", "b")), [when(("is", ("f",), True), [
                when(("is", ("m", "b"), False), [SET_X])])]),), ()),
        ]
        ahead = (("copy", ("t", "k"), ("w",)), ("clear", ("f",)))
        behind = (when(HAS_X, [("clear", ("m", "n"))]), ("clear", ("m", "a")))
        for first, second in pairs:
            for before in ((), ahead):
                for after in ((), behind):
                    self.check(schema, before + first + after, before + second + after, None)

    def test_sides_turned_about(self):
        schema = Schema({"top": {"f": FLAG, "x": NUMBER}})
        first = (when(("is", ("f",), True), [SET_X], [("clear", ("x",))]),)
        self.check(schema, first, (when(("is", ("f",), False), [("clear", ("x",))], [SET_X]),), {})
        second = (when(("is", ("f",), False), [("clear", ("x",))], [when(("has", ("f",)), [SET_X], [("clear", ("x",))])]),)
        self.check(schema, first, second, None)


class HandTest(UnlikeTestCase):
    def test_the_other_field_of_a_choice(self):
        schema = Schema({"top": {"x": NUMBER, "y": NUMBER}}, {"top": [("x", "y")]})
        self.check(schema, (("clear", ("y",)),), (), {"y": 0})
        self.check(schema, (when(HAS_X, [SET_X]),), (when(HAS_X, [("set", ("y",), 1)]),), {"x": 0})
        self.check(schema, (when(HAS_X, [SET_X]),), (when(HAS_X, [("clear", ("y",)), SET_X]),), None)

    def test_messages_made_or_set_as_a_whole(self):
        schema = Schema({"top": {"m": message("m")}, "m": {"a": NUMBER, "n": message("n")}, "n": {"b": NUMBER}})
        self.check(schema, (("clear", ("m", "a")),), (), {"m": {"a": 0}})
        self.check(schema, (("set", ("m", "n"), {}),), (("set", ("m", "n", "b"), 0), ("clear", ("m", "n", "b"))), None)
        self.check(schema, (("set", ("m", "n", "b"), 0),), (("set", ("m", "n"), {}),), {})
        self.check(schema, (("set", ("m", "n"), {}),), (("set", ("m",), {"n": {}}),), {"m": {"a": 0}})
        self.check(schema, (("set", ("m",), {}),), (), {})
        self.check(schema, (when(("has", ("m",)), [("set", ("m",), {})]),), (), {"m": {"a": 0}})
        self.check(schema, (when(("has", ("m",)), [("set", ("m", "n"), {})]),), (), {"m": {}})
        self.check(schema, (when(("has", ("m", "n")), [("clear", ("m",))]),), (), {"m": {"n": {}}})

    def test_a_copy_of_what_is_unset(self):
        schema = Schema({"top": {"x": NUMBER, "m": message("m")}, "m": {"a": NUMBER}})
        self.check(schema, (("copy", ("x",), ("m", "a")),), (), {"x": 0})
        self.check(schema, (when(HAS_X, [], [("copy", ("x",), ("m", "a"))]),), (), {"m": {"a": 0}})
        self.check(schema, (("copy", ("m", "a"), ("x",)),), (when(("has", ("m", "a")), [("copy", ("m", "a"), ("x",))]),),
                   {"x": 0})

    def test_further_names_of_a_map(self):
        schema = Schema({"top": {"t": ("map", "number"), "x": NUMBER}})
        self.check(schema, (("clear", ("t",)),), (("clear", ("t", "a")),), {"t": {"aa": 0}})
        self.check(schema, (("clear", ("t",)),), (("clear", ("t", "b")),), {"t": {"a": 0}})
        self.check(schema, (("set", ("t",), {"a": 1}),), (("set", ("t", "a"), 1),), {"t": {"aa": 0}})
        self.check(schema, (("clear", ("t", "k")), when(("has", ("t",)), [SET_X])),
                   (("clear", ("t", "k")), when(("has", ("t", "a")), [SET_X])), {"t": {"aa": 0}})
        self.check(schema, (when(("has", ("t",)), [("set", ("t", "k"), 1)]),), (), {"t": {"a": 0}})

    def test_a_test_on_what_was_written(self):
        schema = Schema({"top": {"x": NUMBER, "y": NUMBER, "z": NUMBER}})
        copy = ("copy", ("y",), ("x",))
        self.check(schema, (copy, when(HAS_X, [("clear", ("z",))])), (copy,), {"y": 0, "z": 0})
        self.check(schema, (SET_X, when(HAS_X, [("clear", ("z",))])), (SET_X,), {"z": 0})
        self.check(schema, (copy, when(("same", ("x",), ("y",)), [("clear", ("z",))])), (copy, ("clear", ("z",))), None)
        self.check(schema, (copy, when(("is", ("x",), 2), [("clear", ("z",))])), (copy,), {"y": 2, "z": 0})

    def test_leaves_that_are_the_same(self):
        schema = Schema({"top": {"x": NUMBER, "y": NUMBER, "z": NUMBER, "v": NUMBER}})
        clear = [("clear", ("z",))]
        same, value = ("same", ("x",), ("y",)), ("is", ("x",), 5)
        self.check(schema, (when(value, [when(same, clear)]),), (), {"x": 5, "y": 5, "z": 0})
        self.check(schema, (when(same, [when(value, clear)]),), (), {"x": 5, "y": 5, "z": 0})
        self.check(schema, (when(same, [when(HAS_X, clear)]),), (), {"x": 0, "y": 0, "z": 0})
        self.check(schema, (when(HAS_X, [when(same, clear)]),), (), {"x": 0, "y": 0, "z": 0})
        other = ("same", ("y",), ("v",))
        self.check(schema, (when(value, [when(same, [when(other, clear)])]),), (), {"v": 5, "x": 5, "y": 5, "z": 0})
        self.check(schema, (when(other, [when(same, [when(value, clear)])]),), (), {"v": 5, "x": 5, "y": 5, "z": 0})
        barred = ("is", ("y",), 0)
        self.check(schema, (when(barred, [], [when(same, [when(HAS_X, clear)])]),), (), {"x": 1, "y": 1, "z": 0})
        self.check(schema, (when(same, [when(barred, [], [when(HAS_X, clear)])]),), (), {"x": 1, "y": 1, "z": 0})
        self.check(schema, (when(value, [when(same, [when(("is", ("y",), 5), [], clear)])]),), (), None)
        self.check(schema, (when(same, [when(value, [when(("has", ("y",)), [], clear)])]),), (), None)
        self.check(schema, (when(("has", ("y",)), [], [when(same, [when(HAS_X, clear)])]),), (), None)

    def test_unlike_leaves(self):
        schema = Schema({"top": {"x": NUMBER, "y": NUMBER, "z": NUMBER}})
        first = (when(("same", ("x",), ("y",)), [], [("clear", ("x",)), ("clear", ("y",))]),)
        self.check(schema, first, (), {"x": 0})
        both = when(HAS_X, [when(("has", ("y",)), first)])
        self.check(schema, (both,), (), {"x": 0, "y": 1})
        messages = Schema({"top": {"m": message("m"), "x": NUMBER, "z": NUMBER}, "m": {"a": NUMBER, "z": NUMBER}})
        for one, content in ((("x",), {"x": 0}), (("z",), {"z": 0}), (("m", "z"), {"m": {"a": 0}})):
            step = when(("same", ("m", "a"), one), [], [("set", ("m",), {"a": 7, "z": 7})])
            self.check(messages, (step,), (), content)
            step = when(("has", ("m",)), [], [step])
            self.check(messages, (step,), (), content if len(one) == 1 else None)
        either = (when(HAS_X, [], [when(("same", ("y",), ("z",)), [], [("clear", ("y",)), ("clear", ("z",))])]),)
        self.check(schema, either, (), {"y": 0})


    def test_one_part_for_two_that_are_wanted(self):
        schema = Schema({"top": {"t": ("map", "number"), "x": NUMBER, "y": NUMBER}})
        same = when(("same", ("t", "a"), ("y",)), [], [SET_X])
        steps = when(("has", ("t",)), [same], [when(HAS_X, [("clear", ("x",))])])
        self.check(schema, (steps,), (), {"t": {"a": 0}})
        self.check(schema, (when(("has", ("t",)), [], [when(HAS_X, [("clear", ("x",))])]),), (), {"x": 0})

    def test_lesser_values_of_the_same_parts(self):
        for kind, values in ((NUMBER, (0, 1, 2)), (TEXT, ("", "a", "b")), (FLAG, (False, True))):
            schema = Schema({"top": {"v": kind, "x": NUMBER}})
            for value in values[:2]:
                either = when(("is", ("v",), value), [SET_X], [("set", ("x",), 2)])
                self.check(schema, (when(("has", ("v",)), [either]),), (), {"v": values[0]})
                turned = when(("is", ("v",), value), [], [("set", ("x",), 2)])
                self.check(schema, (when(("has", ("v",)), [turned]),), (), {"v": [one for one in values if one != value][0]})


class LeastValuesTest(UnlikeTestCase):
    def nth(self, kind, values):
        """Return the least value of a leaf for which steps that leave some values out do something."""
        schema = Schema({"top": {"v": kind, "x": NUMBER}})
        steps = (SET_X,)
        for value in values:
            steps = (when(("is", ("v",), value), [], steps),)
        told = first_unlike(Program(schema, (when(("has", ("v",)), steps),)), Program(schema))
        return None if told is None else told[("v",)]

    def test_numbers(self):
        self.assertEqual(self.nth(NUMBER, []), 0)
        self.assertEqual(self.nth(NUMBER, [0]), 1)
        self.assertEqual(self.nth(NUMBER, [1]), 0)
        self.assertEqual(self.nth(NUMBER, [1, 0]), 2)

    def test_texts(self):
        self.assertEqual(self.nth(TEXT, []), "")
        self.assertEqual(self.nth(TEXT, [""]), "a")
        self.assertEqual(self.nth(TEXT, ["a"]), "")
        self.assertEqual(self.nth(TEXT, ["a", ""]), "b")

    def test_flags(self):
        self.assertIs(self.nth(FLAG, []), False)
        self.assertIs(self.nth(FLAG, [False]), True)
        self.assertIs(self.nth(FLAG, [True]), False)
        self.assertIsNone(self.nth(FLAG, [True, False]))

    def test_flags_that_are_unlike(self):
        schema = Schema({"top": {"f": FLAG, "g": FLAG, "h": FLAG, "x": NUMBER}})
        unlike = [("same", ("f",), ("g",)), ("same", ("g",), ("h",)), ("same", ("f",), ("h",))]
        for many, content in ((1, {"f": False}), (2, {"g": False}), (3, {"f": False, "g": True})):
            steps = (SET_X,)
            for test in unlike[:many]:
                steps = (when(test, [], steps),)
            self.check(schema, steps, (), content)

    def marked(self, fields, many):
        """Return steps that set y just where three fields are set and so many pairs of them are unlike."""
        pairs = [(fields[0], fields[1]), (fields[1], fields[2]), (fields[0], fields[2])]
        clear = ("clear", ("y",))
        steps = [("set", ("y",), 0)] + [when(("has", (field,)), [], [clear]) for field in fields]
        return steps + [when(("same", (one,), (two,)), [clear]) for one, two in pairs[:many]]

    def test_three_that_are_set_and_unlike(self):
        schema = Schema({"top": {"f": FLAG, "g": FLAG, "h": FLAG, "y": NUMBER}})
        clear = (("clear", ("y",)),)
        self.check(schema, self.marked("fgh", 0), clear, {"f": False, "g": False, "h": False})
        self.check(schema, self.marked("fgh", 1), clear, {"f": False, "g": True, "h": False})
        self.check(schema, self.marked("fgh", 2), clear, {"f": False, "g": True, "h": False})
        # Of a flag there is no third value.
        self.check(schema, self.marked("fgh", 3), clear, None)
        for kind, values in ((NUMBER, (0, 1, 2)), (TEXT, ("", "a", "b"))):
            schema = Schema({"top": {"f": kind, "g": kind, "h": kind, "y": NUMBER}})
            self.check(schema, self.marked("fgh", 3), clear, dict(zip("fgh", values)))
            self.check(schema, self.marked("fgh", 2), clear, dict(zip("fgh", (values[0], values[1], values[0]))))


class LeastNamesTest(UnlikeTestCase):
    def test_the_least_name_that_is_not_named(self):
        schema = Schema({"top": {"t": ("map", "flag")}})
        named = []
        for name in ("a", "aa", "aaa", "aaaa", "aaaaa", "aaaaaa", "aaaaaaa", "aaaaaaaa", "aaaaaaab", "aaaaaaac"):
            clears = tuple([("clear", ("t", other)) for other in named])
            self.check(schema, (("clear", ("t",)),), clears, {"t": {name: False}})
            named.append(name)

    def test_names_of_a_map_that_is_set_as_a_whole(self):
        schema = Schema({"top": {"t": ("map", "flag")}})
        whole = when(("has", ("t",)), [("set", ("t",), {"a": True, "aa": False})])
        self.check(schema, (whole,), (), {"t": {"a": False}})
        self.check(schema, (whole,), (("set", ("t", "a"), True),), {})
        clears = (("clear", ("t", "a")), ("clear", ("t", "aa")))
        self.check(schema, clears + (whole,), clears, {"t": {"aaa": False}})
        self.check(schema, (("clear", ("t",)),), (whole, ("clear", ("t",))), None)

    def test_fewer_parts_come_first(self):
        schema = Schema({"top": {"t": ("map", "number"), "m": message("m"), "u": message("e")},
                         "m": {"t": ("map", "number")}, "e": {}})
        self.check(schema, (("clear", ("m", "t")), ("clear", ("t",))), (), {"t": {"a": 0}})
        self.check(schema, (("clear", ("m", "t")),), (), {"m": {"t": {"a": 0}}})
        self.check(schema, (("clear", ("m",)), ("clear", ("u",))), (), {"m": {}})
        self.check(schema, (("clear", ("u",)), ("clear", ("t",))), (), {"t": {"a": 0}})


class LargeTest(UnlikeTestCase):
    def deep(self):
        fields = {"a": NUMBER, "b": NUMBER, "t": ("map", "number")}
        return Schema({
            "top": {"m": message("m"), "n": message("n"), "x": NUMBER, "y": NUMBER, "z": NUMBER},
            "m": {**fields, "n": message("n")}, "n": {**fields, "p": message("p")}, "p": fields,
        }, {"top": [("m", "n")], "m": [("a", "b")], "n": [("a", "b", "p")]})

    def test_as_large_as_programs_may_be(self):
        schema = self.deep()
        place = ("m", "n", "p")
        inner = when(("same", place + ("a",), ("x",)), [("copy", ("x",), place + ("t", "k"))], [("clear", ("m", "n"))])
        steps = [
            when(("has", ("m",)), [when(("has", ("m", "n")), [inner])], [("set", ("n", "p", "b"), 4)]),
            ("set", ("z",), 5), ("clear", ("m", "b")), when(("is", ("y",), 7), [("set", ("m", "t"), {"k": 1})]),
            ("copy", place + ("t", "k"), ("y",)), ("set", ("m", "n", "t", "l"), 3), ("clear", ("x",)),
        ]
        first = Program(schema, steps)
        second = Program(schema, steps[:-1])
        told = self.check_soon(first_unlike, first, second)
        self.check_content(told, {"x": 0})
        self.assertIsNone(self.check_soon(first_unlike, first, first))

    def test_deep_differences(self):
        schema = self.deep()
        place = ("m", "n", "p")
        test = ("is", place + ("t", "k"), 9)
        inner = when(("same", place + ("a",), ("m", "a")), [when(test, [("clear", ("z",))])])
        program = Program(schema, (when(("is", ("z",), 3), [inner]),))
        told = self.check_soon(first_unlike, program, Program(schema))
        self.check_content(told, {"m": {"n": {"p": {"t": {"k": 9}}}}, "z": 3})

    def wide(self):
        return Schema({
            "top": {"m": message("m"), "n": message("m"), "o": message("m"), "x": NUMBER, "y": NUMBER, "z": NUMBER},
            "m": {name: NUMBER for name in "abcdef"},
        })

    def test_ten_that_copy_or_are_when(self):
        schema = self.wide()
        sets = [("set", ("x",), 0)]
        one = [when(("same", ("m", name), ("n", name)), sets, sets) for name in "abcde"]
        two = [when(("same", ("m", name), ("o", name)), sets) for name in "abcde"] + sets
        self.assertIsNone(self.check_soon(first_unlike, Program(schema, one), Program(schema, two)))
        one[4] = when(("same", ("m", "e"), ("n", "e")), sets, [("set", ("x",), 1)])
        told = self.check_soon(first_unlike, Program(schema, one), Program(schema, two))
        self.check_content(told, {"m": {"e": 0}})

    def test_many_parts(self):
        schema = self.wide()
        steps = (("clear", ("x",)),)
        for at, name in enumerate("abc"):
            steps = (when(("is", ("m", name), at), steps),)
        told = self.check_soon(first_unlike, Program(schema, steps), Program(schema))
        self.check_content(told, {"m": {"a": 0, "b": 1, "c": 2}, "x": 0})
        copies = tuple([("copy", ("m", name), ("n", name)) for name in "abcde"])
        guard = when(("is", ("n", "a"), 4), [("clear", ("x",))])
        told = self.check_soon(first_unlike, Program(schema, copies + (guard,)), Program(schema, copies[:4] + (guard,)))
        self.check_content(told, {"m": {"e": 0}})
        told = self.check_soon(first_unlike, Program(schema, copies + (guard,)), Program(schema, copies[:4]))
        self.check_content(told, {"m": {"e": 0}})
        told = self.check_soon(first_unlike, Program(schema, copies[:4] + (guard,)), Program(schema, copies[:4]))
        self.check_content(told, {"m": {"a": 4}, "x": 0})

    def test_random_large_ones_come_soon(self):
        before = time.perf_counter()
        for schema, chance, _ in chances(200, 5000):
            first, second = chance.program(12), chance.program(12)
            first_unlike(first, second)
        self.assertLess(time.perf_counter() - before, 120)


if __name__ == "__main__":
    unittest.main()
