"""Tests over the whole: stores, clients, guards, texts and what is decided of them agree ([9] to [13])."""

import unittest

from maskwrites.alike import are_alike
from maskwrites.clients import Client, first_unfaithful
from maskwrites.console import Console
from maskwrites.errors import Refused
from maskwrites.guards import first_slipped, least_guards
from maskwrites.masks import Mask
from maskwrites.orders import first_parted, spare_steps
from maskwrites.others import first_lost, is_later
from maskwrites.papers import Paper
from maskwrites.programs import Program
from maskwrites.schemas import Schema
from maskwrites.stores import Store
from maskwrites.texts import mask_text, program_text, read_mask, read_program
from maskwrites.undo import first_muddled, least_kept
from tests import flat
from tests.clientcases import World


def store_of(world, document):
    return Store(world.schema, flat.content_of(document))


def finished(store, client, guard, others=()):
    """Begin a client in a store, run programs of others, let it finish, and tell whether it was not refused."""
    number = store.begin(client, guard)
    for program in others:
        store.run(program)
    try:
        return store.finish(number)
    except Refused:
        return False


class ProgramsInStoresTest(unittest.TestCase):
    def test_a_step_to_spare_left_out_changes_no_store(self):
        spared = 0
        for number in range(40000, 40100):
            world = World(number)
            program = world.chance.near(world.chance.near(world.chance.program(3)))
            for place in spare_steps(program):
                spared += 1
                less = Program(world.schema, program.steps[:place] + program.steps[place + 1:])
                for document in world.some_papers(None)[::5]:
                    stores = [store_of(world, document), store_of(world, document)]
                    stores[0].run(program)
                    stores[1].run(less)
                    self.assertEqual(stores[0].paper(), stores[1].paper())
        self.assertGreater(spared, 30)

    def test_a_client_that_reads_and_writes_all_is_as_the_program(self):
        for number in range(41000, 41060):
            world = World(number)
            program, guard = world.chance.program(4, 4), world.mask(3)
            client = Client(world.schema, world.tops, program, world.tops)
            for document in world.some_papers(None)[::5]:
                for barred in (Mask(), guard, world.tops):
                    stores = [store_of(world, document), store_of(world, document)]
                    self.assertIs(finished(stores[0], client, barred), True)
                    stores[1].run(program)
                    self.assertEqual(stores[0].paper(), stores[1].paper())

    def test_programs_and_masks_read_back_do_the_same(self):
        for number in range(42000, 42060):
            world = World(number)
            client, guard, other = world.client(), world.mask(2), world.chance.program(2)
            masks = [read_mask(mask_text(mask)) for mask in (client.reads, client.writes)]
            again = Client(world.schema, masks[0], read_program(world.schema, program_text(client.program)), masks[1])
            for document in world.some_papers(None)[::5]:
                stores = [store_of(world, document), store_of(world, document)]
                told = finished(stores[0], client, guard, [other])
                read = read_program(world.schema, program_text(other))
                self.assertIs(finished(stores[1], again, read_mask(mask_text(guard)), [read]), told)
                self.assertEqual(stores[0].paper(), stores[1].paper())
                self.assertEqual(stores[0].history(), stores[1].history())

    def test_what_is_told_of_the_order_of_two_programs_is_so(self):
        parted = 0
        for number in range(43000, 43100):
            world = World(number)
            programs = [world.chance.program(2), world.chance.program(2)]
            told = first_parted(*programs)
            parted += told is not None
            documents = world.some_papers(None)[::3] if told is None else [flat.parts_of(told)]
            for document in documents:
                stores = [store_of(world, document), store_of(world, document)]
                for at in (0, 1):
                    stores[0].run(programs[at])
                    stores[1].run(programs[1 - at])
                self.assertIs(stores[0].paper() == stores[1].paper(), told is None)
        self.assertGreater(parted, 20)


class ClientsInStoresTest(unittest.TestCase):
    def others(self, world, rights, document):
        """Return programs of sets and clears within some rights, one after the other."""
        steps = [step for step in world.steps if step[1] in rights]
        return [Program(world.schema, [world.random.choice(steps)]) for _ in range(3)] if steps else []

    def check_at_once(self, world, client, rights, guard):
        """Check that a client leaves what it would have left behind all others, or is refused; count what it did."""
        counts = {True: 0, False: 0}
        for document in world.some_papers(None)[::4]:
            others = self.others(world, rights, document)
            store, behind = store_of(world, document), store_of(world, document)
            answer = finished(store, client, guard, others)
            for program in others:
                behind.run(program)
            if answer:
                self.assertIs(finished(behind, client, guard), True)
            self.assertEqual(store.paper(), behind.paper())
            counts[answer] += 1
        return counts

    def test_clients_that_are_never_lost(self):
        safe = 0
        for number in range(44000, 44150):
            world = World(number)
            client, rights = world.client(), world.mask(3)
            if first_lost(client, rights) is None:
                safe += 1
                self.assertEqual(self.check_at_once(world, client, rights, Mask())[False], 0)
        self.assertGreater(safe, 40)

    def test_clients_whose_guard_lets_nothing_slip(self):
        counts = {True: 0, False: 0}
        for number in range(45000, 45150):
            world = World(number)
            client, rights = world.client(), world.mask(3)
            guard = world.mask(2) | (client.reads if number % 3 else Mask())
            if first_slipped(client, rights, guard) is None and first_lost(client, rights) is not None:
                for answer, many in self.check_at_once(world, client, rights, guard).items():
                    counts[answer] += many
        self.assertGreater(min(counts.values()), 30)

    def test_least_guards_in_stores(self):
        for number in range(46000, 46060):
            world = World(number)
            client, rights = world.client(), world.mask(2)
            for guard in least_guards(client, rights, client.reads.paths[:3]):
                self.check_at_once(world, client, rights, Mask(guard))

    def test_what_is_lost_is_lost_in_a_store(self):
        for number in range(47000, 47100):
            world = World(number)
            client, rights = world.client(), world.mask(2)
            pair = first_lost(client, rights)
            if pair is not None:
                # The others may have made the later paper: here it is put as it is, which is no deed of theirs.
                paper, later = pair
                store = Store(world.schema, paper.content)
                wholes = [("clear", path) for path in world.tops.paths]
                wholes += [("set", (field,), value) for field, value in later.content.items()]
                program = Program(world.schema, wholes)
                self.assertEqual(program(paper), later)
                self.assertIs(finished(store, client, Mask(), [program]), True)
                behind = Store(world.schema, later.content)
                finished(behind, client, Mask())
                self.assertNotEqual(store.paper(), behind.paper())


class AlikeTest(unittest.TestCase):
    def test_what_is_told_of_clients_whose_programs_are_alike(self):
        alike = 0
        for number in range(48000, 48250):
            world = World(number)
            client, rights, guard = world.client(), world.mask(2), world.mask(1)
            program = world.chance.near(client.program)
            forks = program_text(program).count("copy ") + program_text(program).count("when ")
            if program != client.program and forks <= 4 and are_alike(program, client.program):
                alike += 1
                other = Client(world.schema, client.reads, program, client.writes)
                paths = world.mask(3).paths
                self.assertEqual(first_unfaithful(other), first_unfaithful(client))
                self.assertEqual(first_lost(other, rights), first_lost(client, rights))
                self.assertEqual(first_slipped(other, rights, guard), first_slipped(client, rights, guard))
                self.assertEqual(least_guards(other, rights, paths), least_guards(client, rights, paths))
                self.assertEqual(first_muddled(program, guard), first_muddled(client.program, guard))
                self.assertEqual(least_kept(program, paths), least_kept(client.program, paths))
                for document in world.some_papers(None)[::8]:
                    paper = Paper(world.schema, flat.content_of(document))
                    if client.reads == world.tops:
                        self.assertEqual(other.alone(paper), client.alone(paper))
        self.assertGreater(alike, 30)


class LeastSchemasTest(unittest.TestCase):
    def test_a_schema_without_fields(self):
        schema = Schema({"top": {}})
        program, paper = Program(schema), Paper(schema)
        client = Client(schema, Mask(), program, Mask())
        self.assertIsNone(first_unfaithful(client))
        self.assertIsNone(first_lost(client, Mask()))
        self.assertIsNone(first_slipped(client, Mask(), Mask()))
        self.assertIsNone(first_muddled(program, Mask()))
        self.assertEqual([least_guards(client, Mask(), []), least_kept(program, ())], [[()], [()]])
        self.assertIs(is_later(paper, Mask(), paper), True)
        store = Store(schema)
        self.assertEqual([store.begin(client, Mask()), store.finish(1), store.history()], [1, True, [("write", 1)]])
        commands = ("alike", "parted", "run one {}", "changed one", "outside two (none)", "show two", "one nothing")
        told = ["alike", "any order", "{}", "(none)", "within", "nothing", "ok"]
        self.assertEqual([Console(schema)(command) for command in commands], told)

    def test_a_message_without_fields(self):
        schema = Schema({"top": {"e": ("message", "e")}, "e": {}})
        turn = ("when", ("has", ("e",)), (("clear", ("e",)),), (("set", ("e",), {}),))
        program, mask = Program(schema, (turn,)), Mask([("e",)])
        client = Client(schema, mask, program, mask)
        self.assertIsNone(first_unfaithful(client))
        self.assertEqual([paper.content for paper in first_lost(client, mask)], [{}, {"e": {}}])
        self.assertEqual(least_guards(client, mask, [("e",)]), [(("e",),)])
        self.assertIsNone(first_muddled(program, Mask()))
        self.assertEqual(read_program(schema, program_text(program)), program)
        self.assertEqual(Console(schema)("run one {e={}}"), "{e={}}")


if __name__ == "__main__":
    unittest.main()
