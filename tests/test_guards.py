"""Tests of guards: the least pairs that slip through them, and the least guards ([6], [7], [11], [12])."""

import itertools
import unittest

from maskwrites.clients import Client
from maskwrites.guards import first_slipped, least_guards
from maskwrites.masks import Mask
from maskwrites.others import first_lost, is_later
from maskwrites.papers import Paper
from maskwrites.programs import Program
from maskwrites.schemas import Schema
from tests import flat
from tests.clientcases import World, guarded, pair_key
from tests.leastness import LeastTestCase, when
from tests.samples import FLAG, NUMBER, message

SET_X = ("set", ("x",), 1)


class GuardTestCase(LeastTestCase):
    def client(self, schema, reads, steps, writes):
        return Client(schema, Mask(reads), Program(schema, steps), Mask(writes))

    def check_slipped(self, client, rights, guard, contents):
        pair = first_slipped(client, Mask(rights), Mask(guard))
        if contents is None:
            self.assertIsNone(pair)
            return
        self.assertIs(type(pair), tuple)
        self.assertEqual([paper.content for paper in pair], list(contents))
        paper, later = pair
        self.assertIs(is_later(paper, Mask(rights), later), True)
        self.assertEqual(paper.only(Mask(guard)), later.only(Mask(guard)))
        self.assertNotEqual(client.written(paper, later), client.alone(later))


class SlippedTest(GuardTestCase):
    def test_the_example_of_the_document(self):
        schema = Schema({"top": {"x": NUMBER, "y": NUMBER, "z": NUMBER}})
        client = self.client(schema, [("x",)], (("copy", ("x",), ("z",)),), [("z",)])
        self.check_slipped(client, [("x",)], [("x",)], None)
        self.check_slipped(client, [("x",)], [("y",)], ({}, {"x": 0}))
        self.check_slipped(client, [("x",)], [], ({}, {"x": 0}))

    def test_values_count_as_well_as_parts(self):
        for kind, values in (("number", (0, 1)), ("flag", (False, True)), ("text", ("", "a"))):
            schema = Schema({"top": {"x": (kind,), "y": (kind,), "z": (kind,)}})
            copies = (("copy", ("x",), ("z",)), ("copy", ("y",), ("z",)))
            client = self.client(schema, [("x",), ("y",)], copies, [("z",)])
            self.check_slipped(client, [("x",), ("y",)], [("y",)], None)
            self.check_slipped(client, [("x",), ("y",)], [("x",)], ({}, {"y": values[0]}))
            has = when(("has", ("x",)), [("copy", ("y",), ("z",))], [("clear", ("z",))])
            client = self.client(schema, [("x",), ("y",)], (has,), [("z",)])
            self.check_slipped(client, [("x",), ("y",)], [("x",)], ({"x": values[0]}, {"x": values[0], "y": values[0]}))
            self.check_slipped(client, [("x",), ("y",)], [("y",)], ({"y": values[0]}, {"x": values[0], "y": values[0]}))
            self.check_slipped(client, [("x",), ("y",)], [("x",), ("y",)], None)

    def test_a_guard_of_what_is_not_read(self):
        # The guard looks at the whole paper, not only at what was read.
        schema = Schema({"top": {"x": NUMBER, "y": NUMBER, "z": NUMBER}}, {"top": [("x", "y")]})
        has = when(("has", ("x",)), [("set", ("z",), 1)], [("clear", ("z",))])
        client = self.client(schema, [("x",)], (has,), [("z",)])
        self.check_slipped(client, [("x",)], [("y",)], ({}, {"x": 0}))
        self.check_slipped(client, [("y",)], [], ({"x": 0}, {}))
        self.check_slipped(client, [("y",)], [("y",)], ({"x": 0}, {}))
        self.check_slipped(client, [("y",)], [("x",)], None)

    def test_messages_for_what_their_fields_do_not_tell(self):
        schema = Schema({"top": {"m": message("m"), "x": NUMBER}, "m": {"a": NUMBER, "n": message("n")}, "n": {}})
        has = when(("has", ("m",)), [SET_X], [("clear", ("x",))])
        client = self.client(schema, [("m",)], (has,), [("x",)])
        fields = [("m", "a"), ("m", "n")]
        self.check_slipped(client, fields, [], ({}, {"m": {}}))
        self.check_slipped(client, fields, fields, ({}, {"m": {}}))
        self.check_slipped(client, fields, [("m",)], None)
        has = when(("has", ("m", "n")), [SET_X], [("clear", ("x",))])
        client = self.client(schema, [("m",)], (has,), [("x",)])
        self.check_slipped(client, fields, [("m", "a")], ({}, {"m": {"n": {}}}))
        self.check_slipped(client, fields, [("m", "n")], None)

    def test_names_of_maps(self):
        schema = Schema({"top": {"t": ("map", "flag"), "x": NUMBER}})
        has = when(("has", ("t",)), [SET_X], [("clear", ("x",))])
        client = self.client(schema, [("t",)], (has,), [("x",)])
        self.check_slipped(client, [("t",)], [("t", "a")], ({}, {"t": {"aa": False}}))
        self.check_slipped(client, [("t",)], [("t", "b")], ({}, {"t": {"a": False}}))
        self.check_slipped(client, [("t", "k")], [("t", "k")], None)
        self.check_slipped(client, [("t",)], [("t",)], None)
        self.check_slipped(client, [("t", "k")], [("t", "l")], ({}, {"t": {"k": False}}))

    def test_against_all_small_pairs(self):
        slipped = 0
        for number in range(9000, 9120):
            world = World(number)
            client, rights, guard = world.client(), world.mask(3), world.mask(2)
            pair = first_slipped(client, rights, guard)
            slipped += pair is not None
            first, second = (None, None) if pair is None else [flat.parts_of(paper) for paper in pair]
            if pair is not None:
                self.assertTrue(world.is_lost(client, guard, first, second))
                self.assertIs(is_later(*pair[:1], rights, *pair[1:]), True)
            for document in world.some_papers(first)[::2] + ([] if first is None else [first]):
                for later in world.later(document, rights):
                    if pair is None or pair_key(document, later) < pair_key(first, second):
                        self.assertFalse(world.is_lost(client, guard, document, later), (number, document, later))
        self.assertGreater(slipped, 15)

    def test_new_papers_each_time_and_arguments_by_name(self):
        schema = Schema({"top": {"x": NUMBER, "z": NUMBER}})
        client = self.client(schema, [("x",)], (("copy", ("x",), ("z",)),), [("z",)])
        rights, guard = Mask([("x",)]), Mask()
        pair = first_slipped(guard=guard, rights=rights, client=client)
        for paper in pair:
            self.assertIs(type(paper), Paper)
            paper[("z",)] = 5
        self.check_slipped(client, [("x",)], [], ({}, {"x": 0}))
        self.assertEqual((rights, guard), (Mask([("x",)]), Mask()))


class LeastGuardsTest(GuardTestCase):
    def check(self, client, rights, paths, told):
        """Check the least guards out of some paths, handed in in any sequence, as a list or as a tuple."""
        for turned in itertools.permutations(paths):
            given = list(turned)
            self.assertEqual(least_guards(client, Mask(rights), given), told)
            self.assertEqual(given, list(turned))
        result = least_guards(client, Mask(rights), tuple(paths))
        self.assertEqual(result, told)
        self.assertIs(type(result), list)
        self.assertTrue(all(type(row) is tuple for row in result))

    def test_the_example_of_the_document(self):
        schema = Schema({"top": {"x": NUMBER, "y": NUMBER, "z": NUMBER}})
        client = self.client(schema, [("x",)], (("copy", ("x",), ("z",)),), [("z",)])
        self.check(client, [("x",)], [("y",), ("x",)], [(("x",),)])

    def test_none_is_needed(self):
        schema = Schema({"top": {"x": NUMBER, "y": NUMBER, "z": NUMBER}})
        client = self.client(schema, [("x",)], (("copy", ("x",), ("z",)),), [("z",)])
        self.check(client, [("y",), ("z",)], [("x",), ("y",), ("z",)], [()])
        self.check(client, [("y",)], [], [()])
        self.check(client, [], [("x",)], [()])

    def test_none_will_do(self):
        schema = Schema({"top": {"x": NUMBER, "y": NUMBER, "z": NUMBER, "t": ("map", "number")}})
        client = self.client(schema, [("x",), ("y",)], (("copy", ("x",), ("z",)),), [("z",)])
        self.check(client, [("x",)], [("y",), ("z",)], [])
        self.check(client, [("x",)], [], [])
        client = self.client(schema, [("t",)], (), [("t",)])
        self.check(client, [("t",)], [("t", "a"), ("t", "b"), ("x",)], [])
        self.check(client, [("t",)], [("t", "a"), ("t",)], [(("t",),)])

    def test_either_of_two(self):
        schema = Schema({"top": {"f": FLAG, "m": message("m"), "x": NUMBER}, "m": {"a": NUMBER, "b": NUMBER}},
                        {"m": [("a", "b")]})
        has = when(("has", ("m", "a")), [SET_X], [("clear", ("x",))])
        client = self.client(schema, [("m", "a")], (has,), [("x",)])
        self.check(client, [("m", "a")], [("m",), ("m", "a"), ("x",)], [(("m",),), (("m", "a"),)])
        # To set b clears a, and that is seen by either.
        self.check(client, [("m", "b")], [("m", "b"), ("m", "a"), ("f",)], [(("m", "a"),)])

    def test_both(self):
        schema = Schema({"top": {"w": NUMBER, "x": NUMBER, "y": NUMBER, "z": NUMBER}})
        same = when(("same", ("x",), ("y",)), [("set", ("z",), 1)], [("clear", ("z",))])
        client = self.client(schema, [("x",), ("y",)], (same,), [("z",)])
        self.check(client, [("x",), ("y",)], [("x",), ("y",), ("z",), ("w",)], [(("x",), ("y",))])
        self.check(client, [("x",)], [("x",), ("y",), ("z",), ("w",)], [(("x",),)])

    def test_either_one_alone_or_two_others_together(self):
        schema = Schema({"top": {"m": message("m"), "x": NUMBER}, "m": {"a": NUMBER, "b": NUMBER}})
        steps = (("copy", ("m", "a"), ("x",)), when(("has", ("m", "b")), [SET_X]))
        client = self.client(schema, [("m", "a"), ("m", "b")], steps, [("x",)])
        self.check(client, [("m",)], [("m",), ("m", "a"), ("m", "b"), ("x",)], [(("m",),), (("m", "a"), ("m", "b"))])

    def test_a_message_for_what_its_fields_do_not_tell(self):
        schema = Schema({"top": {"m": message("m"), "x": NUMBER}, "m": {"a": NUMBER}})
        has = when(("has", ("m",)), [SET_X], [("clear", ("x",))])
        client = self.client(schema, [("m",)], (has,), [("x",)])
        self.check(client, [("m", "a")], [("m",), ("m", "a")], [(("m",),)])
        self.check(client, [("m", "a")], [("m", "a"), ("x",)], [])

    def test_a_choice(self):
        schema = Schema({"top": {"x": NUMBER, "y": NUMBER, "z": NUMBER}}, {"top": [("x", "y")]})
        has = when(("has", ("x",)), [("set", ("z",), 1)], [("clear", ("z",))])
        client = self.client(schema, [("x",)], (has,), [("z",)])
        # Setting and clearing y takes x away, and leaves y as it was.
        self.check(client, [("y",)], [("x",), ("y",), ("z",)], [(("x",),)])

    def test_against_all_small_pairs(self):
        kinds = {}
        for number in range(11000, 11060):
            world = World(number)
            program, rights = world.chance.program(3, 3), world.mask(3)
            client = Client(world.schema, world.tops, program, world.mask(4))
            pool = sorted({*world.mask(4).paths, *rights.paths, *[step[1] for step in program.steps if step[0] != "when"]})
            paths = world.random.sample(pool, min(3, len(pool)))
            told = least_guards(client, rights, paths)
            kind = tuple([len(row) for row in told])
            kinds[kind] = kinds.get(kind, 0) + 1
            lost = self.lost_pairs(world, client, rights)
            for many in range(len(paths) + 1):
                for row in itertools.combinations(sorted(paths), many):
                    holds = any(set(part) <= set(row) for part in told)
                    self.assertIs(first_slipped(client, rights, Mask(row)) is None, holds)
                    if holds:
                        for document, later in lost:
                            self.assertNotEqual(guarded(Mask(row), document), guarded(Mask(row), later))
            self.assertEqual(told, sorted(told, key=lambda row: (len(row), row)))
            for first, second in itertools.permutations(told, 2):
                self.assertFalse(set(first) <= set(second))
        self.assertTrue({(), (0,), (1,)} <= set(kinds), kinds)

    def lost_pairs(self, world, client, rights):
        return [
            (document, later) for document in world.some_papers(None)[::4] for later in world.later(document, rights)
            if world.is_lost(client, Mask(), document, later)
        ]

    def test_what_is_told_is_new_and_arguments_by_name(self):
        schema = Schema({"top": {"x": NUMBER, "z": NUMBER}})
        client = self.client(schema, [("x",)], (("copy", ("x",), ("z",)),), [("z",)])
        rights = Mask([("x",)])
        told = least_guards(paths=[("x",)], client=client, rights=rights)
        self.assertEqual(told, [(("x",),)])
        told.clear()
        self.assertEqual(least_guards(rights=rights, paths=(("x",),), client=client), [(("x",),)])

    def test_as_large_as_it_may_be(self):
        schema = Schema({
            "top": {name: message("m") for name in "uvwxyz"}, "m": {name: NUMBER for name in "abcd"},
        }, {"top": [("u", "v", "w"), ("x", "y", "z")], "m": [("a", "b"), ("c", "d")]})
        copies = [("copy", (one, "a"), (two, "b")) for one, two in zip("uvwx", "vwxy")]
        tops = [(name,) for name in "uvwx"]
        client = self.client(schema, tops, copies, tops)
        rights = Mask([(name, "a") for name in "uvwx"])
        told = self.check_soon(least_guards, client, rights, tops)
        self.assertEqual(told, [tuple(tops)])
        self.assertIsNone(self.check_soon(first_slipped, client, rights, Mask(tops)))
        client = self.client(schema, [(name,) for name in "uvxy"], copies, [("v",), ("y",)])
        self.assertEqual(self.check_soon(least_guards, client, rights, [("z",), ("u", "a"), ("v", "d"), ("x", "b")]), [])


class TogetherTest(GuardTestCase):
    def test_wider_guards_and_guards_of_all_that_is_read(self):
        slipped = 0
        for number in range(12000, 12120):
            world = World(number)
            client, rights, guard = world.client(), world.mask(3), world.mask(1)
            pair = first_slipped(client, rights, guard)
            wider = first_slipped(client, rights, guard | world.mask(1))
            if pair is None:
                self.assertIsNone(wider)
            elif wider is not None:
                slipped += 1
                self.assertTrue(pair[0] < wider[0] or pair[0] == wider[0] and not wider[1] < pair[1])
            self.assertIsNone(first_slipped(client, rights, world.tops))
            self.assertEqual(first_slipped(client, rights, Mask()), first_lost(client, rights))
        self.assertGreater(slipped, 10)

    def test_a_guard_over_all_that_is_read_and_its_messages(self):
        for number in range(13000, 13100):
            world = World(number)
            client, rights = world.client(), world.mask(3)
            self.assertIsNone(first_slipped(client, rights, client.reads))


if __name__ == "__main__":
    unittest.main()
