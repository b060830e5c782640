"""Tests that all that is told goes along with a letter ahead of all names of fields and messages ([4], [6], [9], [13])."""

import re
import unittest

from maskwrites.alike import first_unlike
from maskwrites.changes import changed, first_changed, first_outside
from maskwrites.clients import Client, first_unfaithful
from maskwrites.console import Console
from maskwrites.guards import first_slipped, least_guards
from maskwrites.masks import Mask
from maskwrites.orders import first_parted, first_unsteady, spare_steps
from maskwrites.others import first_lost, is_later
from maskwrites.papers import Paper
from maskwrites.programs import Program
from maskwrites.schemas import Schema
from maskwrites.texts import mask_text, program_text, read_program
from maskwrites.undo import first_muddled, least_kept
from tests.clientcases import World

LETTER = "q"


class Renamed:
    """A schema and the same one with a letter ahead of all names of fields and messages but the top's."""

    def __init__(self, schema):
        self.old = schema
        messages = {
            self.message(name): {LETTER + field: self.kind(kind) for field, kind in fields.items()}
            for name, fields in schema.messages.items()
        }
        choices = {
            self.message(name): [tuple([LETTER + field for field in row]) for row in rows]
            for name, rows in schema.choices.items()
        }
        self.new = Schema(messages, choices)

    def message(self, name):
        return name if name == "top" else LETTER + name

    def kind(self, kind):
        return ("message", self.message(kind[1])) if kind[0] == "message" else kind

    def path(self, path):
        is_name = len(path) > 1 and self.old.kind_at(path[:-1])[0] == "map"
        fields = path[:-1] if is_name else path
        return tuple([LETTER + field for field in fields]) + (path[-1:] if is_name else ())

    def value(self, path, value):
        if not isinstance(value, dict):
            return value
        if path and self.old.kind_at(path)[0] == "map":
            return value
        return {LETTER + field: self.value(path + (field,), worth) for field, worth in value.items()}

    def paper(self, paper):
        return None if paper is None else Paper(self.new, self.value((), paper.content))

    def pair(self, pair):
        return None if pair is None else tuple([self.paper(paper) for paper in pair])

    def mask(self, mask):
        return Mask([self.path(path) for path in mask.paths])

    def steps(self, steps):
        return tuple([self.step(step) for step in steps])

    def step(self, step):
        if step[0] == "when":
            return ("when", self.step(step[1]), self.steps(step[2]), self.steps(step[3]))
        if step[0] in ("set", "is"):
            return (step[0], self.path(step[1]), self.value(step[1], step[2]))
        return (step[0],) + tuple([self.path(path) for path in step[1:]])

    def program(self, program):
        return Program(self.new, self.steps(program.steps))

    def client(self, client):
        return Client(self.new, self.mask(client.reads), self.program(client.program), self.mask(client.writes))


class RenamedTest(unittest.TestCase):
    def worlds(self, many, first):
        for number in range(first, first + many):
            world = World(number)
            yield world, Renamed(world.schema)

    def test_what_programs_make_and_parts_and_order(self):
        for world, renamed in self.worlds(40, 30000):
            program = world.chance.program(4)
            papers = [world.paper(document) for document in world.some_papers(None)]
            for paper, after in zip(papers, papers[1:]):
                new = renamed.paper(paper)
                self.assertEqual(new.parts(), [renamed.path(path) for path in paper.parts()])
                self.assertEqual(renamed.program(program)(new), renamed.paper(program(paper)))
                self.assertTrue(new < renamed.paper(after))

    def test_what_is_told_of_programs(self):
        for world, renamed in self.worlds(100, 31000):
            one, two, mask = world.chance.program(3), world.chance.program(3), world.mask(2)
            first, second = renamed.program(one), renamed.program(two)
            self.assertEqual(first_unlike(first, second), renamed.paper(first_unlike(one, two)))
            self.assertEqual(changed(first), renamed.mask(changed(one)))
            self.assertEqual(first_changed(first), renamed.paper(first_changed(one)))
            self.assertEqual(first_outside(first, renamed.mask(mask)), renamed.paper(first_outside(one, mask)))
            self.assertEqual(first_parted(first, second), renamed.paper(first_parted(one, two)))
            self.assertEqual(first_unsteady(first), renamed.paper(first_unsteady(one)))
            self.assertEqual(spare_steps(first), spare_steps(one))

    def test_what_is_told_of_clients_and_pairs(self):
        for world, renamed in self.worlds(60, 32000):
            client, rights, guard = world.client(), world.mask(2), world.mask(1)
            new, others, barring = renamed.client(client), renamed.mask(rights), renamed.mask(guard)
            self.assertEqual(first_unfaithful(new), renamed.paper(first_unfaithful(client)))
            self.assertEqual(first_lost(new, others), renamed.pair(first_lost(client, rights)))
            self.assertEqual(first_slipped(new, others, barring), renamed.pair(first_slipped(client, rights, guard)))
            paths = world.mask(3).paths
            told = [tuple([renamed.path(path) for path in row]) for row in least_guards(client, rights, paths)]
            self.assertEqual(least_guards(new, others, [renamed.path(path) for path in paths]), told)
            self.assertEqual(first_muddled(new.program, barring), renamed.pair(first_muddled(client.program, guard)))
            told = [tuple([renamed.path(path) for path in row]) for row in least_kept(client.program, paths)]
            self.assertEqual(least_kept(new.program, [renamed.path(path) for path in paths]), told)
            some = [world.paper(world.random.choice(world.papers)) for _ in range(2)]
            self.assertIs(is_later(*some[:1], rights, *some[1:]), is_later(renamed.paper(some[0]), others, renamed.paper(some[1])))

    def test_texts_and_consoles(self):
        for world, renamed in self.worlds(60, 33000):
            program, mask = world.chance.program(3), world.mask(3)
            new = renamed.program(program)
            self.assertEqual(read_program(renamed.new, program_text(new)), new)
            self.assertEqual(self.shorn(program_text(new)), self.shorn(program_text(program)))
            self.assertEqual(self.shorn(mask_text(renamed.mask(mask))), self.shorn(mask_text(mask)))
            one, two = Console(world.schema), Console(renamed.new)
            one("one " + program_text(program))
            two("one " + program_text(new))
            for command in ("alike", "parted", "changed one", "show one"):
                self.assertEqual(self.shorn(two(command)), self.shorn(one(command)))

    def shorn(self, text):
        """Return a text without the letter where it is put ahead (no schema has it itself)."""
        return re.sub(LETTER, "", text)


if __name__ == "__main__":
    unittest.main()
