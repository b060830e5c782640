"""Tests over the whole of schemas, papers, programs and what is decided of them ([5] to [10])."""

import unittest

from maskwrites.alike import are_alike, first_unlike
from maskwrites.changes import changed, first_changed, first_outside
from maskwrites.masks import Mask
from maskwrites.orders import first_parted, first_unsteady, spare_steps
from maskwrites.papers import Paper
from maskwrites.programs import Program
from maskwrites.schemas import Schema
from maskwrites.tables import is_table, made_by, row_for, table
from tests.leastness import LeastTestCase, chances, when
from tests.samples import FEW, FLAG, NUMBER, TEXT, Chance, all_papers, message


class AgreeTest(LeastTestCase):
    def test_tables_and_programs(self):
        for schema, chance, papers in chances(80, 20000):
            first = chance.program(4)
            second = chance.near(first)
            rows = table(first)
            for paper in papers[::5]:
                self.assertIsNotNone(row_for(rows, paper))
                self.assertEqual(made_by(rows, paper), first(paper))
            self.assertIs(is_table(second, rows), are_alike(first, second))
            self.assertIs(is_table(first, table(second)), are_alike(first, second))

    def test_programs_that_do_something_just_where_they_change(self):
        for schema, chance, papers in chances(80, 21000):
            program = chance.program(4)
            least = first_changed(program)
            self.assertEqual(least, first_unlike(program, Program(schema)))
            self.assertIs(least is None, len(changed(program)) == 0 and are_alike(program, Program(schema)))
            if least is not None and len(program.steps) < 9:
                self.assertNotEqual(program(least), least)
            if first_unsteady(program) is None:
                for paper in papers[::5]:
                    self.assertEqual(program(program(paper)), program(paper))

    def test_both_programs_in_either_order(self):
        for schema, chance, papers in chances(120, 22000):
            first, second = chance.program(2, 3), chance.program(2, 3)
            self.assertEqual(first_parted(first, second), first_unlike(first + second, second + first))
            self.assertEqual(first_unsteady(first), first_unlike(first + first, first))
            spare = spare_steps(first)
            for place in spare:
                steps = first.steps[:place] + first.steps[place + 1:]
                self.assertIs(are_alike(first, Program(schema, steps)), True)

    def test_what_is_told_of_alike_programs_is_the_same(self):
        alike = 0
        for schema, chance, papers in chances(240, 23000):
            first, other = chance.program(3), chance.program(2)
            second = chance.near(first)
            if are_alike(first, second):
                alike += 1
                self.assertEqual(changed(first), changed(second))
                self.assertEqual(first_changed(first), first_changed(second))
                self.assertEqual(first_outside(first, Mask()), first_outside(second, Mask()))
                self.assertEqual(first_unsteady(first), first_unsteady(second))
                self.assertEqual(first_parted(first, other), first_parted(second, other))
                self.assertEqual(first_unlike(first, other), first_unlike(second, other))
                self.assertIs(is_table(second, table(first)), True)
        self.assertGreater(alike, 60)


class ApartTest(LeastTestCase):
    def schema(self):
        return Schema({
            "top": {"m": message("m"), "n": message("m"), "u": message("m")},
            "m": {"a": NUMBER, "b": NUMBER, "f": FLAG, "t": ("map", "flag"), "w": TEXT, "k": message("k")},
            "k": {"c": NUMBER, "d": FLAG},
        }, {"m": [("a", "k"), ("t", "w")]})

    def inner(self):
        messages = self.schema().messages
        return Schema({"top": messages["m"], "k": messages["k"]}, {"top": [("a", "k"), ("t", "w")]})

    def below(self, path, step):
        """Return a step of the inner schema as one of the whole schema below a path."""
        def moved(row):
            return (row[0],) + tuple([path + part if isinstance(part, tuple) else part for part in row[1:]])

        if step[0] != "when":
            return moved(step)
        sides = [tuple([self.below(path, inner) for inner in side]) for side in step[2:]]
        return ("when", moved(step[1]), *sides)

    def test_programs_on_fields_that_have_nothing_in_common(self):
        schema = self.schema()
        papers = [Paper(schema, {"m": one, "n": two}) for one, two in zip(self.contents(), reversed(self.contents()))]
        for number in range(60):
            chance = Chance(number, self.inner(), FEW, ("a", "b"))
            one, two = chance.program(3, 3).steps, chance.program(3, 3).steps
            first = Program(schema, [self.below(("m",), step) for step in one])
            second = Program(schema, [self.below(("n",), step) for step in two])
            self.assertIsNone(first_parted(first, second))
            both = first + second
            self.assertEqual(changed(both), changed(first) | changed(second))
            self.assertIsNone(first_outside(both, changed(first) | changed(second)))
            self.assertTrue(changed(first).within(Mask([("m",)])))
            self.assertTrue(are_alike(both, second + first))
            for paper in papers:
                self.assertEqual(both(paper).outside(Mask([("n",)])), first(paper).outside(Mask([("n",)])))

    def contents(self):
        return [paper.content for paper in all_papers(self.inner(), {"number": [0], "text": [""], "flag": [True]}, ("a",))]

    def test_tests_on_what_the_other_one_changes(self):
        schema = self.schema()
        first = Program(schema, [when(("has", ("n", "a")), [("set", ("m", "a"), 1)])])
        second = Program(schema, [("clear", ("n", "a"))])
        self.assertEqual(first_parted(first, second).content, {"n": {"a": 0}})
        self.assertIsNone(first_parted(first, Program(schema, [("clear", ("n", "b"))])))
        second = Program(schema, [("set", ("n", "k", "c"), 1)])
        self.assertEqual(first_parted(first, second).content, {"n": {"a": 0}})


if __name__ == "__main__":
    unittest.main()
