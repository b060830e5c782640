"""Tests of tables ([9], [10])."""

import copy
import itertools
import random
import time
import unittest

from maskwrites.papers import Paper
from maskwrites.programs import Program, is_test
from maskwrites.schemas import Schema
from maskwrites.tables import is_table, made_by, row_for, table
from tests import flat
from tests.anyvalues import any_values, schema_example
from tests.samples import FEW, FLAG, MORE, NUMBER, TEXT, Chance, all_papers, message, shapes

UNSET = ("unset",)
MADE = ("made",)
SET_X = ("set", ("x",), 1)
HAS_X = ("has", ("x",))


def value(worth):
    return ("value", worth)


def source(*path):
    return ("from", path)


def when(test, first=(), second=()):
    return ("when", test, tuple(first), tuple(second))


def is_more(schema, test):
    if not isinstance(test, tuple) or len(test) != 3 or test[0] != "more":
        return False
    return schema.kind_at(test[1])[0] == "map" and list(test[2]) == sorted(set(test[2]))


def is_source(schema, path, told):
    kind = schema.kind_at(path)
    if told == UNSET:
        return True
    if kind[0] == "message":
        return told == MADE
    if kind[0] == "map":
        return False
    if told[0] == "value":
        return len(told) == 2 and schema.is_value(path, told[1])
    return told[0] == "from" and len(told) == 2 and schema.kind_at(told[1]) == kind


class RightTestCase(unittest.TestCase):
    def check_form(self, schema, rows):
        self.assertIs(type(rows), list)
        for row in rows:
            self.assertIs(type(row), tuple)
            tests, result = row
            self.assertIs(type(tests), tuple)
            self.assertIs(type(result), tuple)
            for test, answer in tests:
                self.assertIs(type(answer), bool)
                self.assertTrue(is_test(schema, test) or is_more(schema, test), test)
            paths = [path for path, _ in result]
            self.assertEqual(paths, sorted(set(paths)))
            for path, told in result:
                self.assertIs(type(told), tuple)
                self.assertTrue(is_source(schema, path, told), (path, told))

    def check_right(self, program, rows, papers):
        """Check that a table is right, by what the program makes of papers and by what the package tells."""
        flats = [flat.parts_of(paper) for paper in papers]
        self.assertTrue(flat.is_right(program.schema, program.steps, rows, flats), rows)
        for paper in papers:
            place = flat.rows_for(rows, flat.parts_of(paper))[0]
            self.assertEqual(row_for(rows, paper), place)
            self.assertEqual(made_by(rows, paper), program(paper))
        self.assertIs(is_table(program, rows), True)

    def check_told(self, program, papers):
        rows = table(program)
        self.check_form(program.schema, rows)
        self.check_right(program, rows, papers)
        return rows


class TableTest(RightTestCase):
    def test_the_example_of_the_document(self):
        schema = Schema({"top": {"x": NUMBER, "y": NUMBER}}, {"top": [("x", "y")]})
        program = Program(schema, (SET_X,))
        rows = [((), ((("x",), value(1)), (("y",), UNSET)))]
        self.assertEqual(
            [is_table(program, rows), is_table(program, table(program)), is_table(program, rows + rows)],
            [True, True, False],
        )
        self.assertEqual(made_by(rows, Paper(schema, {"y": 2})).content, {"x": 1})

    def test_no_steps(self):
        for schema, values, names in shapes():
            papers = all_papers(schema, FEW, names[:2])
            self.assertEqual(len(self.check_told(Program(schema), papers)), 1)

    def test_by_chance(self):
        for number in range(150):
            schema, values, names = shapes()[number % len(shapes())]
            chance = Chance(number, schema, FEW, names[:2])
            papers = all_papers(schema, values, names[:3])
            self.check_told(chance.program(5), papers[::max(1, len(papers) // 60)])

    def test_what_is_told_is_new(self):
        program = Program(Schema({"top": {"x": NUMBER}}), (SET_X,))
        rows = table(program)
        kept = copy.deepcopy(rows)
        rows.clear()
        self.assertEqual(table(program), kept)
        self.assertEqual(program.steps, (SET_X,))

    def test_a_row_for_each_paper_alone(self):
        schema = Schema({"top": {field: NUMBER for field in "abcdex"}})
        steps = [when(("has", (field,)), [("clear", (field,))], [("set", (field,), 0)]) for field in "abcde"]
        program = Program(schema, steps)
        papers = all_papers(schema, {"number": [0, 1]})
        self.assertEqual(len(self.check_told(program, papers)), 32)
        steps = [when(("is", (field,), 1), [("set", ("x",), at)]) for at, field in enumerate("abcde")]
        self.assertEqual(len(self.check_told(Program(schema, steps), papers)), 32)

    def test_by_hand(self):
        schema = Schema(*schema_example())
        papers = [Paper(schema, content) for content in contents_of_the_example()]
        programs = [
            (("copy", ("x",), ("m", "n", "t")),),
            (("clear", ("m",)), ("set", ("m", "b"), True)),
            (("clear", ("m",)), when(("has", ("m",)), [SET_X])),
            (("set", ("t",), {"k": "a", "l": "b"}), when(("has", ("t",)), [("clear", ("t", "k"))])),
            (("clear", ("t", "k")), when(("has", ("t",)), [SET_X], [("set", ("y",), 1)])),
            (("set", ("t", "k"), ""), ("clear", ("t", "k")), when(("has", ("t",)), [("clear", ("t", "l"))])),
            (SET_X, when(("is", ("x",), 1), [("copy", ("x",), ("m", "a"))])),
            (("copy", ("x",), ("y",)), when(("same", ("x",), ("y",)), [("set", ("f",), True)])),
            (("copy", ("y",), ("x",)), ("clear", ("y",)), when(HAS_X, [("clear", ("m", "n", "c"))])),
            (("copy", ("t", "k"), ("w",)), ("clear", ("w",)), ("copy", ("w",), ("t", "l"))),
            (("copy", ("t", "k"), ("m", "n", "d")), ("clear", ("t",)), ("copy", ("m", "n", "d"), ("t", "k"))),
            (when(HAS_X, [when(("is", ("x",), 0), [when(("has", ("m",)), [("clear", ("m",))])])], [SET_X]),),
            (when(("is", ("f",), True), [SET_X], [when(("is", ("f",), False), [("clear", ("f",))])]),),
            (("set", ("m", "g", "k"), True), ("set", ("m", "e"), {}), when(("has", ("m", "g")), [SET_X])),
        ]
        for steps in programs:
            self.check_told(Program(schema, steps), papers)


def contents_of_the_example():
    """Return some contents of the schema with every kind."""
    tops = [{}, {"x": 0}, {"x": 1}, {"y": 0}, {"y": 1, "f": True}, {"x": 2, "f": False}]
    others = [
        {}, {"w": ""}, {"w": "a"}, {"t": {"k": "a"}}, {"t": {"l": ""}}, {"t": {"k": "", "l": "a"}}, {"t": {"z": "z"}},
        {"m": {}}, {"m": {"a": 1}}, {"m": {"b": True, "g": {"k": False}}}, {"m": {"e": {}}}, {"m": {"n": {}}},
        {"m": {"n": {"d": "a", "t": 1}}}, {"m": {"n": {"c": {"k": 0}}}}, {"m": {"a": 0, "n": {"c": {"k": 1, "z": 2}}}},
    ]
    return [{**top, **other} for top in tops for other in others]


class OtherRightTablesTest(RightTestCase):
    def small(self):
        schema = Schema({
            "top": {"m": message("m"), "x": NUMBER, "y": NUMBER, "t": ("map", "number")}, "m": {"a": NUMBER, "b": NUMBER},
        }, {"top": [("x", "y")]})
        return schema, all_papers(schema, {"number": [0, 1]}, ("a", "k"))[::3]

    def test_in_any_sequence(self):
        schema, papers = self.small()
        program = Program(schema, [when(HAS_X, [("clear", ("m",))], [when(("has", ("t", "k")), [("clear", ("t",))])])])
        for rows in itertools.permutations(table(program)):
            self.check_right(program, list(rows), papers)

    def test_rows_parted_by_a_test(self):
        schema, papers = self.small()
        program = Program(schema, [("copy", ("x",), ("m", "a")), ("clear", ("t", "k"))])
        for number in range(20):
            chance = Chance(number, schema, FEW, ("a", "k"))
            rows = table(program)
            for _ in range(6):
                place = chance.random.randrange(len(rows))
                tests, result = rows[place]
                test = ("more", ("t",), ("a", "k")) if chance.random.random() < 0.2 else chance.test()
                rows[place:place + 1] = [(((test, answer),) + tests, result) for answer in (False, True)]
            self.check_right(program, rows, papers[::7])

    def test_rows_for_no_paper(self):
        schema, papers = self.small()
        program = Program(schema, [SET_X])
        never = [
            ((HAS_X, True), (("has", ("y",)), True)), ((("is", ("x",), 0), True), (("is", ("x",), 1), True)),
            ((HAS_X, True), (HAS_X, False)), ((("has", ("m", "a")), True), (("has", ("m",)), False)),
            ((("more", ("t",), ("k",)), True), (("has", ("t",)), False)),
            ((("same", ("x",), ("y",)), True), (HAS_X, True)),
            ((("is", ("m", "a"), 0), True), (("is", ("m", "b"), 0), True), (("same", ("m", "a"), ("m", "b")), False)),
        ]
        for tests in never:
            for result in ((), ((("x",), value(5)),)):
                self.check_right(program, table(program) + [(tests, result)], papers[::5])
                self.check_right(program, [(tests, result)] + table(program), papers[::5])

    def test_leaves_that_are_the_same_by_way_of_another_one(self):
        schema = Schema({"top": {"x": NUMBER, "y": NUMBER, "z": NUMBER, "w": NUMBER}})
        program = Program(schema)
        papers = all_papers(schema, {"number": [0, 1]})
        tests = [(("same", ("x",), ("y",)), True), (("same", ("z",), ("w",)), True), (("same", ("y",), ("z",)), True)]
        for told in itertools.permutations(tests + [(("same", ("x",), ("w",)), False)]):
            self.check_right(program, [((), ()), (told, ((("x",), value(5)),))], papers[::9])
        for told in itertools.permutations(tests[:2] + [(("same", ("x",), ("w",)), False)]):
            self.assertIs(is_table(program, [((), ()), (told, ((("x",), value(5)),))]), False)

    def test_what_is_as_it_was_told_besides(self):
        schema, papers = self.small()
        program = Program(schema, [("clear", ("m", "b"))])
        self.check_right(program, [((), ((("m", "b"), UNSET),))], papers)
        rows = [((), ((("m", "a"), source("m", "a")), (("m", "b"), UNSET), (("t", "k"), source("t", "k"))))]
        self.check_right(program, rows, papers)
        rows = [
            (((("has", ("m",)), True),), ((("m",), MADE), (("m", "b"), UNSET))),
            (((("has", ("m",)), False),), ((("m",), UNSET), (("x",), source("x")))),
        ]
        self.check_right(program, rows, papers)

    def test_sources_that_are_unset(self):
        schema, papers = self.small()
        program = Program(schema, [("copy", ("m", "a"), ("m", "b"))])
        self.check_right(program, [((), ((("m", "b"), source("m", "a")),))], papers)
        program = Program(schema, [("copy", ("m", "a"), ("t", "k"))])
        self.check_right(program, [((), ((("t", "k"), source("m", "a")),))], papers)
        program = Program(schema, [("copy", ("t", "k"), ("m", "a"))])
        self.check_right(program, [((), ((("m", "a"), source("t", "k")),))], papers)

    def test_parts_below_a_message_that_is_told_as_unset(self):
        schema, papers = self.small()
        program = Program(schema, [("set", ("m",), {"a": 1})])
        self.check_right(program, [((), ((("m",), UNSET), (("m", "a"), value(1))))], papers)
        self.check_right(program, [((), ((("m",), MADE), (("m", "a"), value(1)), (("m", "b"), UNSET)))], papers)
        self.check_right(program, [((), ((("m", "a"), value(1)), (("m", "b"), UNSET)))], papers)
        self.assertIs(is_table(program, [((), ((("m", "a"), value(1)),))]), False)
        program = Program(schema, [when(("has", ("m", "a")), [("clear", ("m", "b"))], [("clear", ("m",))])])
        self.check_right(program, [((), ((("m",), UNSET), (("m", "a"), source("m", "a"))))], papers)
        self.assertIs(is_table(program, [((), ((("m",), UNSET),))]), False)
        self.assertIs(is_table(program, [((), ((("m",), MADE), (("m", "b"), UNSET)))]), False)

    def test_a_map_told_as_unset(self):
        schema, papers = self.small()
        program = Program(schema, [("set", ("t",), {"k": 1})])
        self.check_right(program, [((), ((("t",), UNSET), (("t", "k"), value(1))))], papers)
        self.assertIs(is_table(program, [((), ((("t", "k"), value(1)),))]), False)
        self.assertIs(is_table(program, [((), ((("t", "a"), UNSET), (("t", "k"), value(1))))]), False)
        program = Program(schema, [when(("has", ("t", "k")), [("copy", ("t", "k"), ("x",)), ("clear", ("t",)),
                                                               ("copy", ("x",), ("t", "k"))], [("clear", ("t",))])])
        rows = [
            (((("has", ("t", "k")), True),), ((("t",), UNSET), (("t", "k"), source("t", "k")),
                                              (("x",), source("t", "k")), (("y",), UNSET))),
            (((("has", ("t", "k")), False),), ((("t",), UNSET),)),
        ]
        self.check_right(program, rows, papers)

    def test_results_that_the_tests_alone_make_right(self):
        schema, papers = self.small()
        program = Program(schema, [SET_X])
        tests = (("is", ("x",), 1), ("has", ("y",)))
        rows = [
            (((tests[0], True),), ()), (((tests[0], False), (tests[1], True)), ((("x",), value(1)), (("y",), UNSET))),
            (((tests[0], False), (tests[1], False)), ((("x",), value(1)),)),
        ]
        self.check_right(program, rows, papers)
        rows[0] = (rows[0][0], ((("x",), source("x")), (("y",), UNSET)))
        self.check_right(program, rows, papers)
        rows[1] = (rows[1][0], ((("x",), value(1)),))
        self.assertIs(is_table(program, rows), False)

    def test_tests_three_deep(self):
        schema, papers = self.small()
        inner = when(("same", ("x",), ("m", "a")), [("set", ("y",), 0)], [("clear", ("t",))])
        program = Program(schema, [when(HAS_X, [when(("has", ("t",)), [inner])], [("set", ("m",), {})])])
        self.check_told(program, papers)


class WrongTablesTest(RightTestCase):
    def test_any_value(self):
        program = Program(Schema({"top": {"x": NUMBER}}))
        for told in any_values():
            kept = copy.deepcopy(told)
            self.assertIs(is_table(program, told), False, told)
            self.assertEqual(told, kept)

    def test_any_value_within(self):
        schema = Schema({"top": {"x": NUMBER, "m": message("m"), "t": ("map", "text")}, "m": {"a": NUMBER}})
        program = Program(schema)
        good = ()
        for told in any_values():
            for rows in (
                [told], [(told, ())], [((), told)], [((), (), told)], [((told, True),)], [(((HAS_X, told),), ())],
                [(((told, True),), ()), (((told, False),), ())], [((), (told,))], [((), ((told, UNSET),))],
                [((), ((("x",), told),))], [((), ((("m",), told),))], [((), ((("t",), told),))],
                [((), ((("x",), ("value", told)),))], [((), ((("x",), ("from", told)),))], [((), ()), told],
            ):
                if told != good or rows in ([told], [((), ()), told], [((), (told,))]):
                    expected = rows == [((), ((("x",), ("from", ("x",))),))]
                    self.assertIs(is_table(program, rows), expected, rows)
        self.assertIs(is_table(program, [((), ())]), True)

    def test_forms(self):
        schema = Schema({"top": {"x": NUMBER, "w": TEXT, "m": message("m"), "t": ("map", "number")}, "m": {"a": NUMBER}})
        program = Program(schema)
        both = ((("x",), source("x")), (("x",), source("x")))
        wrong = [
            (), ((), ()), [[(), ()]], [((), (), ())], [((),)], [([], ())], [((), [])], (((), ()),), {},
            [((), both)], [((), ((("x",), source("x")), (("m", "a"), source("m", "a"))))],
            [((), ((("z",), UNSET),))], [((), (((), UNSET),))], [((), ([("x",), source("x")],))],
            [((), ((("x",), ["from", ("x",)]),))], [((), ((("x",), source("w")),))], [((), ((("x",), source("t")),))],
            [((), ((("x",), ("from", "x")),))], [((), ((("x",), ("from",)),))], [((), ((("t",), source("t")),))],
            [((), ((("m",), source("m")),))], [((), ((("m",), value({})),))], [((), ((("x",), MADE),))],
            [((), ((("t",), MADE),))], [((), ((("x",), ("none",)),))], [((), ((("x",), ()),))],
            [((), ((("x",), ("from", ("x",), ("x",))),))], [((), ((("x",), ("value", True)),))],
        ]
        for rows in wrong:
            self.assertIs(is_table(program, rows), False, rows)
        self.assertIs(is_table(program, [((), ((("x",), source("x")),))]), True)

    def test_tests_that_are_none(self):
        schema = Schema({"top": {"x": NUMBER, "y": NUMBER, "t": ("map", "number")}})
        program = Program(schema)
        for test in (
            ("has", ("z",)), ("has", ()), ("is", ("x",), True), ("same", ("x",), ("x",)), ["has", ("x",)], HAS_X[0],
            ("more", ("x",), ()), ("more", ("t",), ("b", "a")), ("more", ("t",), ("a", "a")), ("more", ("t",), ["a"]),
            ("more", ("t",), ("A",)), ("more", ("t",)), ("more", ("t",), "a"), ("more", ("t", "a"), ()), ("not", HAS_X),
            ("more", ("t",), (1,)), ("more", ("z",), ()), ["more", ("t",), ()],
        ):
            rows = [(((test, answer),), ()) for answer in (False, True)]
            self.assertIs(is_table(program, rows), False, test)
        for test in (HAS_X, ("more", ("t",), ()), ("more", ("t",), ("a", "b")), ("is", ("t", "a"), 4)):
            self.assertIs(is_table(program, [(((test, answer),), ()) for answer in (False, True)]), True)
            for answers in ((0, 1), (None, True), ("", "a")):
                self.assertIs(is_table(program, [(((test, answer),), ()) for answer in answers]), False)

    def test_no_row_and_rows_twice(self):
        for number in range(40):
            schema, values, names = shapes()[number % len(shapes())]
            program = Chance(number, schema, FEW, names[:2]).program(4)
            rows = table(program)
            self.assertIs(is_table(program, []), False)
            self.assertIs(is_table(program, rows + rows), False)
            for place in range(len(rows)):
                self.assertIs(is_table(program, rows[:place] + rows[place + 1:]), False)
                self.assertIs(is_table(program, rows + rows[place:place + 1]), False)

    def test_other_values_names_and_texts_than_the_program_names(self):
        schema = Schema({"top": {"x": NUMBER, "w": TEXT, "t": ("map", "number")}})
        program = Program(schema)
        tests = (("is", ("x",), 10 ** 60 - 1), ("is", ("w",), "zzzzzzzzzzzz"), ("has", ("t", "zzzzzzzz")))
        for test in tests:
            wrong = ((("t",), UNSET), (("w",), UNSET), (("x",), UNSET))
            rows = [(((test, False),), ()), (((test, True),), wrong)]
            self.assertIs(is_table(program, rows), False)
            self.assertIs(is_table(program, [rows[0], (rows[1][0], ())]), True)
        more = ("more", ("t",), ("k",))
        rows = [(((more, True),), ()), (((more, False),), ((("t",), UNSET),))]
        self.assertIs(is_table(program, rows), False)
        self.assertIs(is_table(program, [rows[0], (rows[1][0], ((("t", "b"), UNSET),))]), True)
        self.assertIs(is_table(program, [((), ((("t", "b"), UNSET),))]), False)
        self.assertIs(is_table(program, [((), ((("t", "b"), source("t", "b")),))]), True)
        self.assertIs(is_table(program, [((), ((("t", "b"), source("t", "c")),))]), False)
        program = Program(schema, [("clear", ("t", "k"))])
        self.assertIs(is_table(program, [((), ((("t",), UNSET),))]), False)
        self.assertIs(is_table(program, [((), ((("t", "k"), UNSET),))]), True)
        rows = [
            (((("more", ("t",), ("k",)), True),), ((("t", "k"), UNSET),)),
            (((("more", ("t",), ("k",)), False),), ((("t",), UNSET),)),
        ]
        self.assertIs(is_table(program, rows), True)

    def test_changes_by_chance_against_all_small_papers(self):
        seen = {True: 0, False: 0}
        for number in range(250):
            schema, values, names = shapes()[number % len(shapes())]
            chance = Chance(number, schema, FEW, names[:1])
            program = chance.program(3)
            flats = [flat.parts_of(paper) for paper in all_papers(schema, values, names[:3])]
            rows = table(program)
            for _ in range(3):
                rows = changed_rows(chance, rows)
                right = flat.is_right(schema, program.steps, rows, flats)
                seen[right] += 1
                self.assertIs(is_table(program, rows), right, (number, program.steps, rows))
        self.assertGreater(min(seen.values()), 100)

    def test_a_table_of_another_program(self):
        for number in range(120):
            schema, values, names = shapes()[number % len(shapes())]
            chance = Chance(number, schema, FEW, names[:2])
            first = chance.program(4)
            second = chance.near(first)
            flats = [flat.parts_of(paper) for paper in all_papers(schema, values, names[:3])]
            same = all(flat.done(schema, first.steps, one) == flat.done(schema, second.steps, one) for one in flats)
            self.assertIs(is_table(first, table(second)), same)


def changed_rows(chance, rows):
    """Return rows with one small change."""
    rows = list(rows)
    if not rows:
        return rows
    place = chance.random.randrange(len(rows))
    tests, result = rows[place]
    change = chance.random.choice(("part", "out", "test", "told", "source", "turn", "twice"))
    if change == "part":
        test = chance.test()
        rows[place:place + 1] = [(tests + ((test, answer),), result) for answer in (False, True)]
    elif change == "out":
        del rows[place]
    elif change == "test":
        rows[place] = (tests[1:], result)
    elif change == "told":
        rows[place] = (tests, result[1:])
    elif change == "source":
        path = chance.random.choice(chance.paths)
        sources = [told for told in [UNSET, MADE] if is_source(chance.schema, path, told)]
        if path in chance.leaves:
            kind = chance.schema.kind_at(path)
            sources += [source(*other) for other in chance.leaves if chance.schema.kind_at(other) == kind]
            sources.append(value(chance.value(path)))
        told = {**dict(result), path: chance.random.choice(sources)}
        rows[place] = (tests, tuple(sorted(told.items(), key=lambda row: row[0])))
    elif change == "turn" and tests:
        rows[place] = (((tests[0][0], not tests[0][1]),) + tests[1:], result)
    else:
        rows.append((tests, result))
    return rows


class RowTest(unittest.TestCase):
    def test_the_first_one(self):
        schema = Schema({"top": {"x": NUMBER, "t": ("map", "number")}})
        rows = [
            (((HAS_X, True), (("is", ("x",), 3), False)), ()), (((("more", ("t",), ("a",)), True),), ()),
            (((("more", ("t",), ()), True),), ()), (((HAS_X, True),), ()),
        ]
        kept = copy.deepcopy(rows)
        told = [({"x": 1}, 0), ({"x": 3}, 3), ({"t": {"a": 1}}, 2), ({"t": {"a": 1, "b": 1}}, 1), ({}, None),
                ({"x": 3, "t": {"k": 0}}, 1)]
        for content, place in told:
            paper = Paper(schema, content)
            self.assertEqual(row_for(rows, paper), place)
            self.assertEqual(row_for(table=tuple(rows), paper=paper), place)
            self.assertEqual(paper.content, content)
        self.assertIsNone(row_for([], Paper(schema)))
        self.assertEqual(row_for([((), ())], Paper(schema)), 0)
        self.assertEqual(rows, kept)

    def test_a_result_is_a_new_paper(self):
        schema = Schema({"top": {"x": NUMBER, "t": ("map", "number")}})
        paper = Paper(schema, {"x": 1, "t": {"a": 1}})
        rows = table(Program(schema))
        made = made_by(rows, paper)
        self.assertEqual(made, paper)
        made.clear(("x",))
        made[("t", "a")] = 2
        self.assertEqual(paper.content, {"x": 1, "t": {"a": 1}})
        self.assertEqual(made_by(paper=paper, table=rows), paper)

    def test_tables_stay(self):
        schema = Schema({"top": {"x": NUMBER}})
        program = Program(schema, (SET_X,))
        rows = [((), ((("x",), value(1)),))]
        kept = copy.deepcopy(rows)
        self.assertIs(is_table(value=rows, program=program), True)
        made_by(rows, Paper(schema))
        self.assertEqual(rows, kept)
        self.assertEqual(table(program=program), table(program))


class LargeTest(unittest.TestCase):
    def grown(self, rows, chance, many, most):
        rows = list(rows)
        while len(rows) < many:
            place = chance.random.randrange(len(rows))
            tests, result = rows[place]
            if len(tests) < most:
                test = chance.test()
                rows[place:place + 1] = [(((test, answer),) + tests, result) for answer in (False, True)]
        return rows

    def test_four_hundred_rows(self):
        schema = Schema({
            "top": {"m": message("m"), "n": message("m"), "x": NUMBER, "f": FLAG, "t": ("map", "text")},
            "m": {field: NUMBER for field in "abcdef"},
        }, {"top": [("m", "x")], "m": [("a", "b")]})
        steps = [
            when(("same", ("m", "a"), ("n", field)), [("set", ("n", "a"), 1)], [("clear", ("t",))]) for field in "abcde"
        ]
        program = Program(schema, steps)
        for number in range(3):
            chance = Chance(number, schema, MORE, ("a", "b"))
            rows = self.grown(table(program), chance, 399, 60)
            before = time.perf_counter()
            self.assertIs(is_table(program, rows), True)
            chance.random.shuffle(rows)
            self.assertIs(is_table(program, rows), True)
            place = row_for(rows, Paper(schema))
            self.assertIs(is_table(program, rows[:place] + rows[place + 1:]), False)
            self.assertIs(is_table(program, rows + [rows[place]]), False)
            self.assertLess(time.perf_counter() - before, 60)

    def test_sixty_pairs(self):
        schema = Schema({"top": {field: NUMBER for field in "abcdef"}})
        rows = []
        pairs = ()
        for number in range(59):
            test = ("is", ("abcdef"[number % 6],), number)
            rows.append((pairs + ((test, True),), ()))
            pairs += ((test, False),)
        rows.append((pairs + ((("has", ("a",)), True),), ()))
        rows.append((pairs + ((("has", ("a",)), False),), ()))
        self.assertEqual(max(len(row[0]) for row in rows), 60)
        self.assertIs(is_table(Program(schema), rows), True)
        for place in (0, 30, 58, 59, 60):
            self.assertIs(is_table(Program(schema), rows[:place] + rows[place + 1:]), False)
            wrong = rows[:place] + [(rows[place][0], ((("f",), value(77)),))] + rows[place + 1:]
            self.assertIs(is_table(Program(schema), wrong), False)

    def test_what_cannot_be_beside_much_that_can(self):
        schema = Schema({
            "top": {"m": message("m"), "f": FLAG, "g": FLAG, "h": FLAG, "t": ("map", "text")},
            "m": {field: NUMBER for field in "abcdef"},
        }, {"m": [("a", "b", "c")]})
        names = [one + other for one in "abcdefgh" for other in "abcdef"]
        many = [(("same", ("t", one), ("t", other)), False) for one, other in zip(names[::2], names[1::2])]
        flags = [(("has", (field,)), True) for field in "fgh"]
        flags += [(("same", one, other), False) for one, other in itertools.combinations([("f",), ("g",), ("h",)], 2)]
        three = [("m", "a"), ("m", "b"), ("m", "c")]
        leaves = [(("same", one, other), False) for one, other in itertools.combinations(three, 2)]
        program = Program(schema)
        wrong = ((("f",), UNSET), (("m",), MADE))
        before = time.perf_counter()
        for tests in (many + flags, flags + many, many + leaves, leaves + many):
            self.assertIs(is_table(program, table(program) + [(tuple(tests), wrong)]), True)
        for tests in (many + flags[:-1], leaves[:-1] + many):
            self.assertIs(is_table(program, table(program) + [(tuple(tests), wrong)]), False)
        self.assertLess(time.perf_counter() - before, 60)

    def test_rows_that_have_little_in_common(self):
        schema = Schema({"top": {field: NUMBER for field in "abcdef"}})
        chance = random.Random(1)
        rows = [
            (tuple(((("is", (chance.choice("abcdef"),), chance.randrange(10 ** 6))), chance.random() < 0.5)
                   for _ in range(60)), ())
            for _ in range(400)
        ]
        self.assertIs(is_table(Program(schema), rows), False)


if __name__ == "__main__":
    unittest.main()
