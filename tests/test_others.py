"""Tests of later papers, and of the least pairs for which clients are not as if at once ([6], [7], [11], [12])."""

import unittest

from maskwrites.clients import Client
from maskwrites.errors import Lost, MaskError
from maskwrites.masks import Mask
from maskwrites.others import first_lost, is_later, need_safe
from maskwrites.papers import Paper
from maskwrites.programs import Program
from maskwrites.schemas import Schema
from tests import flat
from tests.clientcases import World, pair_key
from tests.leastness import LeastTestCase, when
from tests.samples import FLAG, NUMBER, TEXT, message

SET_X = ("set", ("x",), 1)


class LaterTest(unittest.TestCase):
    def check(self, schema, content, rights, laters, others):
        """Check which of some contents are later ones of a content, for the paths of rights."""
        paper, mask = Paper(schema, content), Mask(rights)
        for contents, answer in ((laters, True), (others, False)):
            for later in contents:
                told = Paper(schema, later)
                self.assertIs(is_later(paper, mask, told), answer, later)
                self.assertEqual((paper.content, told.content), (content, later))

    def test_the_example_of_the_document(self):
        schema = Schema({"top": {"x": NUMBER, "y": NUMBER, "z": NUMBER}}, {"top": [("x", "y")]})
        self.assertIs(is_later(Paper(schema, {"y": 1}), Mask([("x",)]), Paper(schema)), True)
        self.check(schema, {"y": 1}, [("x",)], [{"y": 1}, {}, {"x": 7}], [{"y": 2}, {"z": 1}, {"x": 7, "z": 0}])
        self.check(schema, {"y": 1, "z": 1}, [("z",)], [{"y": 1, "z": 1}, {"y": 1}, {"y": 1, "z": 9}], [{}, {"z": 1}])

    def test_without_rights_a_paper_alone(self):
        schema = Schema({"top": {"x": NUMBER, "m": message("m")}, "m": {"a": NUMBER}})
        self.check(schema, {"x": 1}, [], [{"x": 1}], [{}, {"x": 2}, {"x": 1, "m": {}}])
        self.check(schema, {}, [], [{}], [{"x": 0}, {"m": {}}])

    def test_messages_are_made_and_stay(self):
        schema = Schema({"top": {"m": message("m"), "x": NUMBER}, "m": {"a": NUMBER, "b": FLAG, "n": message("n")},
                         "n": {"c": NUMBER, "d": NUMBER}})
        self.check(schema, {}, [("m", "a")], [{}, {"m": {}}, {"m": {"a": 3}}], [{"m": {"b": True}}, {"m": {"n": {}}}])
        self.check(schema, {"m": {"a": 1}}, [("m", "a")], [{"m": {}}, {"m": {"a": 2}}], [{}])
        self.check(schema, {}, [("m", "n", "c")], [{"m": {"n": {}}}, {"m": {"n": {"c": 0}}}], [{"m": {}}, {"x": 0}])
        self.check(schema, {"m": {}}, [("m", "n", "c")], [{"m": {}}, {"m": {"n": {}}}], [{}, {"m": {"a": 0}}])
        self.check(schema, {"m": {"n": {"d": 1}}}, [("m", "n", "c")], [{"m": {"n": {"c": 2, "d": 1}}}],
                   [{"m": {"n": {}}}, {"m": {"n": {"d": 2}}}, {"m": {}}])
        self.check(schema, {"m": {"n": {"d": 1}}}, [("m", "n")],
                   [{"m": {}}, {"m": {"n": {}}}, {"m": {"n": {"c": 4}}}], [{}, {"m": {"a": 1}}])
        self.check(schema, {"m": {"n": {"d": 1}}}, [("m",)], [{}, {"m": {}}, {"m": {"a": 1, "b": False}}], [{"x": 1}])

    def test_maps_come_and_go(self):
        schema = Schema({"top": {"t": ("map", "text"), "x": NUMBER}})
        self.check(schema, {}, [("t",)], [{}, {"t": {"k": "a"}}, {"t": {"k": "", "l": "b"}}], [{"x": 0}])
        self.check(schema, {"t": {"k": "a"}}, [("t", "k")], [{}, {"t": {"k": "b"}}], [{"t": {"l": "a"}}])
        self.check(schema, {"t": {"k": "a", "l": ""}}, [("t", "k")], [{"t": {"l": ""}}], [{}, {"t": {"k": "a"}}])
        self.check(schema, {"t": {"k": "a"}}, [("t", "l")], [{"t": {"k": "a", "l": ""}}, {"t": {"k": "a"}}], [{}])
        self.check(schema, {"t": {"k": "a", "l": ""}}, [("t", "k"), ("t", "l")], [{}, {"t": {"l": "z"}}], [{"t": {"m": ""}}])

    def test_a_map_that_stands_in_a_choice(self):
        schema = Schema({"top": {"t": ("map", "text"), "x": NUMBER, "z": NUMBER}}, {"top": [("t", "x")]})
        self.check(schema, {"x": 1}, [("t", "k")], [{}, {"t": {"k": "a"}}], [{"t": {"l": "a"}}, {"x": 2}])
        self.check(schema, {"t": {"k": "a", "l": "a"}}, [("x",)], [{"x": 1}, {}], [{"t": {"k": "a"}}])
        self.check(schema, {"t": {"k": "a", "l": "a"}}, [("x",), ("t", "k")],
                   [{"t": {"l": "a"}}, {"t": {"k": "b"}}, {"t": {"k": "b", "l": "a"}}, {}], [{"t": {"l": "b"}}])

    def test_what_may_not_stand_beside_it_is_gone(self):
        schema = Schema({
            "top": {"m": message("m"), "n": message("m"), "x": NUMBER}, "m": {"a": NUMBER, "b": NUMBER, "c": NUMBER},
        }, {"top": [("m", "n")], "m": [("a", "b")]})
        # It was set in between, and cleared again or not.
        self.check(schema, {"m": {"a": 1}}, [("m", "b")], [{"m": {"b": 2}}, {"m": {}}], [{}, {"m": {"c": 1}}])
        self.check(schema, {"n": {"a": 1}}, [("m", "c")], [{"m": {}}, {"m": {"c": 1}}], [{}, {"n": {}}])
        self.check(schema, {"n": {"a": 1}}, [("m",)], [{"m": {"a": 1}}, {}], [{"n": {}}])
        # What a message had that was cleared and made again is gone.
        both = [("m", "c"), ("n", "c")]
        self.check(schema, {"m": {"a": 1, "c": 2}}, both, [
            {"m": {"a": 1}}, {"m": {"a": 1, "c": 3}}, {"m": {}}, {"m": {"c": 2}}, {"n": {}}, {"n": {"c": 0}},
        ], [{}, {"n": {"a": 1}}, {"m": {"a": 2}}])
        self.check(schema, {}, both, [{}, {"m": {}}, {"n": {"c": 2}}], [{"m": {"a": 1}}])
        self.check(schema, {"m": {"c": 2}}, [("m", "a")], [{"m": {"a": 0, "c": 2}}, {"m": {"c": 2}}], [{"m": {}}])

    def test_against_all_deeds_of_others(self):
        for number in range(60):
            world = World(number)
            rights = world.mask(3)
            for document in world.some_papers(None)[::8]:
                laters = world.later(document, rights)
                keys = [flat.order_key(later) for later in laters]
                paper = world.paper(document)
                for other in [world.random.choice(rows) for rows in (laters, world.papers) for _ in range(4)]:
                    answer = is_later(paper, rights, world.paper(other))
                    self.assertIs(answer, flat.order_key(other) in keys, (number, document, other))

    def test_deeds_within_the_rights_and_within_wider_ones(self):
        for number in range(80):
            world = World(number)
            rights = world.mask(3)
            steps = [step for step in world.steps if step[1] in rights]
            document = world.random.choice(world.papers)
            paper = world.paper(document)
            done = [world.random.choice(steps) for _ in range(6)] if steps else []
            later = Program(world.schema, done)(paper)
            self.assertIs(is_later(paper, rights, later), True)
            self.assertIs(is_later(paper, rights | world.mask(1), later), True)
            self.assertIs(is_later(paper, world.tops, later), True)
            self.assertIs(is_later(paper, rights, paper), True)
            self.assertIs(is_later(paper, Mask(), later), later == paper)

    def test_arguments_by_name(self):
        schema = Schema({"top": {"x": NUMBER}})
        paper, later = Paper(schema, {"x": 1}), Paper(schema)
        self.assertIs(is_later(later=later, rights=Mask([("x",)]), paper=paper), True)
        self.assertIs(is_later(rights=Mask(), paper=paper, later=later), False)


class LostTestCase(LeastTestCase):
    def client(self, schema, reads, steps, writes):
        return Client(schema, Mask(reads), Program(schema, steps), Mask(writes))

    def check_lost(self, client, rights, contents):
        """Check the contents of the least pair that is lost, None for none."""
        rights = Mask(rights)
        pair = first_lost(client, rights)
        if contents is None:
            self.assertIsNone(pair)
            self.assertIsNone(need_safe(client, rights))
            return
        self.assertIs(type(pair), tuple)
        self.assertEqual([paper.content for paper in pair], list(contents))
        paper, later = pair
        self.assertIs(is_later(paper, rights, later), True)
        self.assertNotEqual(client.written(paper, later), client.alone(later))


class LostTest(LostTestCase):
    def test_the_example_of_the_document(self):
        schema = Schema({"top": {"x": NUMBER, "y": NUMBER, "z": NUMBER}}, {"top": [("x", "y")]})
        client = self.client(schema, [("x",)], (("copy", ("x",), ("z",)),), [("z",)])
        self.check_lost(client, [("x",)], ({}, {"x": 0}))

    def test_what_was_read_was_changed(self):
        schema = Schema({"top": {"f": FLAG, "w": TEXT, "x": NUMBER, "y": NUMBER, "z": NUMBER}})
        client = self.client(schema, [("x",), ("y",)], (("copy", ("x",), ("z",)),), [("z",)])
        self.check_lost(client, [("x",)], ({}, {"x": 0}))
        self.check_lost(client, [("y",), ("z",), ("f",)], None)
        test = when(("is", ("x",), 5), [("set", ("z",), 1)], [("clear", ("z",))])
        client = self.client(schema, [("x",)], (test,), [("z",)])
        self.check_lost(client, [("x",)], ({}, {"x": 5}))
        self.check_lost(client, [], None)
        same = when(("same", ("x",), ("y",)), [("set", ("z",), 1)], [("clear", ("z",))])
        client = self.client(schema, [("x",), ("y",)], (same,), [("z",)])
        self.check_lost(client, [("y",)], ({}, {"y": 0}))
        has = when(("has", ("x",)), [same])
        client = self.client(schema, [("x",), ("y",), ("z",)], (has,), [("z",)])
        self.check_lost(client, [("y",)], ({"x": 0}, {"x": 0, "y": 0}))
        either = when(("is", ("f",), True), [("set", ("w",), "a")], [("set", ("w",), "b")])
        client = self.client(schema, [("f",)], (either,), [("w",)])
        self.check_lost(client, [("f",)], ({}, {"f": True}))

    def test_what_is_written_was_read_and_changed(self):
        schema = Schema({"top": {"x": NUMBER, "y": NUMBER}}, {"top": [("x", "y")]})
        # What was read is written back, so that the others' deed is lost.
        client = self.client(schema, [("x",)], (), [("x",)])
        self.check_lost(client, [("x",)], ({}, {"x": 0}))
        client = self.client(schema, [("x",), ("y",)], (), [("x",), ("y",)])
        self.check_lost(client, [("y",)], ({}, {"y": 0}))
        client = self.client(schema, [("x",)], (SET_X,), [("x",)])
        self.check_lost(client, [("x",)], None)
        self.check_lost(client, [("x",), ("y",)], None)

    def test_a_message_was_made_and_emptied(self):
        schema = Schema({"top": {"m": message("m"), "x": NUMBER}, "m": {"a": NUMBER, "b": NUMBER}})
        has = when(("has", ("m",)), [SET_X])
        client = self.client(schema, [("m",)], (has,), [("x",)])
        self.check_lost(client, [("m", "a")], ({}, {"m": {}}))
        self.check_lost(client, [("m",)], ({}, {"m": {}}))
        self.check_lost(client, [("x",)], None)
        client = self.client(schema, [("m", "a")], (has,), [("x",)])
        self.check_lost(client, [("m", "a")], ({}, {"m": {"a": 0}}))
        self.check_lost(client, [("m", "b")], None)
        self.check_lost(client, [("m",)], ({}, {"m": {"a": 0}}))
        client = self.client(schema, [("m",)], (), [("m",)])
        self.check_lost(client, [("m", "a")], ({}, {"m": {}}))

    def test_messages_above_what_is_read(self):
        schema = Schema({
            "top": {"k": message("m"), "m": message("m"), "x": NUMBER}, "m": {"a": NUMBER, "b": NUMBER, "n": message("n")},
            "n": {"c": NUMBER},
        }, {"top": [("k", "m")], "m": [("a", "b")]})
        both = when(("has", ("m",)), [when(("has", ("m", "n")), [SET_X])], [("clear", ("x",))])
        client = self.client(schema, [("m", "n")], (both,), [("x",)])
        # The others made what is read, and so the message above it.
        self.check_lost(client, [("m", "n", "c")], ({}, {"m": {"n": {}}}))
        self.check_lost(client, [("m", "n")], ({}, {"m": {"n": {}}}))
        self.check_lost(client, [("m", "a")], None)
        has = when(("has", ("m",)), [SET_X], [("clear", ("x",))])
        client = self.client(schema, [("m", "n")], (has,), [("x",)])
        self.check_lost(client, [("m", "n", "c")], ({}, {"m": {"n": {}}}))
        self.check_lost(client, [("m", "a"), ("m", "b")], None)
        client = self.client(schema, [("m", "a"), ("m", "n", "c")], (has,), [("x",)])
        # To set b clears a, so that nothing is left of what is read: neither the message above it.
        self.check_lost(client, [("m", "b")], ({"m": {"a": 0}}, {"m": {}}))
        self.check_lost(client, [("k", "a")], ({"m": {"a": 0}}, {"k": {}}))
        self.check_lost(client, [("m", "n")], ({}, {"m": {"n": {"c": 0}}}))
        self.check_lost(client, [("m", "n", "c")], ({}, {"m": {"n": {"c": 0}}}))

    def test_a_field_was_cleared_by_what_may_not_stand_beside_it(self):
        schema = Schema({"top": {"x": NUMBER, "y": NUMBER, "z": NUMBER, "m": message("m")}, "m": {"a": NUMBER}},
                        {"top": [("m", "x"), ("y", "z")]})
        has = when(("has", ("x",)), [("set", ("z",), 1)], [("clear", ("z",))])
        client = self.client(schema, [("x",)], (has,), [("z",)])
        self.check_lost(client, [("m", "a")], ({"x": 0}, {"m": {}}))
        self.check_lost(client, [("m",)], ({"x": 0}, {}))
        self.check_lost(client, [("x",)], ({}, {"x": 0}))
        self.check_lost(client, [("y",)], None)
        self.check_lost(client, [("m", "a"), ("x",)], ({}, {"x": 0}))

    def test_names_of_maps(self):
        schema = Schema({"top": {"t": ("map", "number"), "u": ("map", "number"), "x": NUMBER}})
        has = when(("has", ("t",)), [SET_X], [("clear", ("x",))])
        client = self.client(schema, [("t",)], (has,), [("x",)])
        self.check_lost(client, [("t", "k")], ({}, {"t": {"k": 0}}))
        self.check_lost(client, [("t",)], ({}, {"t": {"a": 0}}))
        client = self.client(schema, [("t", "k")], (has,), [("x",)])
        self.check_lost(client, [("t",)], ({}, {"t": {"k": 0}}))
        self.check_lost(client, [("t", "l")], None)
        client = self.client(schema, [("t",)], (("set", ("t", "a"), 1),), [("t",)])
        self.check_lost(client, [("t",)], ({}, {"t": {"aa": 0}}))
        self.check_lost(client, [("t", "a")], None)
        self.check_lost(client, [("t", "b")], ({}, {"t": {"b": 0}}))
        client = self.client(schema, [("t",), ("u", "a")], (("copy", ("t", "k"), ("u", "a")),), [("u", "a")])
        self.check_lost(client, [("t",)], ({}, {"t": {"k": 0}}))
        self.check_lost(client, [("t", "a"), ("u",)], None)
        # For a name that nothing names the same holds as for all of them.
        client = self.client(schema, [("t",)], (when(("has", ("t",)), [], [SET_X]),), [("t",)])
        self.check_lost(client, [("t",)], ({}, {"t": {"a": 0}}))
        keep = self.client(schema, [("t",)], (when(("has", ("t",)), [("set", ("x",), 1)], []),), [("t",)])
        self.check_lost(keep, [("u",)], None)

    def test_a_map_is_changed_and_set_before_and_behind(self):
        for kind, values in (("number", (0, 1)), ("flag", (False, True)), ("text", ("", "a"))):
            schema = Schema({"top": {"t": ("map", kind), "u": ("map", kind)}})
            whole = when(("has", ("t",)), [], [("set", ("u",), {"k": values[0]})])
            client = self.client(schema, [("t",), ("u",)], (("clear", ("u",)), whole), [("t",)])
            self.check_lost(client, [("t",)], ({}, {"t": {"a": values[0]}}))
            test = when(("is", ("t", "a"), values[0]), [], [("clear", ("t",))])
            client = self.client(schema, [("t",)], (test,), [("t",)])
            self.check_lost(client, [("t",)], ({}, {"t": {"a": values[0]}}))
            self.check_lost(client, [("t", "b")], ({"t": {"a": values[0]}}, {"t": {"a": values[0], "b": values[0]}}))

    def test_rights_that_touch_nothing_of_what_is_read_or_written(self):
        schema = Schema({"top": {"x": NUMBER, "y": NUMBER, "m": message("m")}, "m": {"a": NUMBER, "b": NUMBER}})
        client = self.client(schema, [("m", "a"), ("x",)], (("copy", ("x",), ("m", "a")),), [("m", "a")])
        self.check_lost(client, [("m", "b"), ("y",)], None)
        self.check_lost(client, [], None)
        # A right on what is written, but not read, neither: it is overwritten by the same.
        self.check_lost(self.client(schema, [("x",)], (("copy", ("x",), ("y",)),), [("y",)]), [("y",)], None)
        self.check_lost(self.client(schema, [], (), []), [("x",), ("m",)], None)
        self.check_lost(self.client(schema, [("x",), ("m",)], (SET_X,), []), [("x",), ("m",)], None)

    def test_against_all_small_pairs(self):
        lost = 0
        for number in range(5000, 5120):
            world = World(number)
            client, rights = world.client(), world.mask(3)
            pair = first_lost(client, rights)
            lost += pair is not None
            first, second = (None, None) if pair is None else [flat.parts_of(paper) for paper in pair]
            if pair is not None:
                self.assertTrue(world.is_lost(client, Mask(), first, second))
                self.assertIs(is_later(*pair[:1], rights, *pair[1:]), True)
            for document in world.some_papers(first)[::2] + ([] if first is None else [first]):
                for later in world.later(document, rights):
                    if pair is None or pair_key(document, later) < pair_key(first, second):
                        self.assertFalse(world.is_lost(client, Mask(), document, later), (number, document, later))
        self.assertGreater(lost, 20)

    def test_as_large_as_it_may_be(self):
        schema = Schema({
            "top": {name: message("m") for name in "uvwxyz"}, "m": {name: NUMBER for name in "abcd"},
        }, {"top": [("u", "v", "w"), ("x", "y", "z")], "m": [("a", "b"), ("c", "d")]})
        copies = [("copy", (one, "a"), (two, "b")) for one, two in zip("uvwx", "vwxy")]
        tops = [(name,) for name in "uvwx"]
        client = self.client(schema, tops, copies, tops)
        pair = self.check_soon(first_lost, client, Mask([("u", "a"), ("v", "a"), ("w", "a"), ("x", "a")]))
        self.assertEqual([paper.content for paper in pair], [{}, {"u": {}}])
        client = self.client(schema, tops, copies, [("z", "a")])
        self.assertIsNone(self.check_soon(first_lost, client, Mask(tops)))

    def test_lesser_values_of_the_same_parts(self):
        schema = Schema({"top": {"w": NUMBER, "x": NUMBER, "y": NUMBER, "z": NUMBER}})
        either = when(("is", ("x",), 0), [("set", ("z",), 1)], [("set", ("z",), 2)])
        client = self.client(schema, [("x",)], (when(("has", ("x",)), [either], [("clear", ("z",))]),), [("z",)])
        self.check_lost(client, [("x",)], ({}, {"x": 0}))
        # A first paper that comes ahead counts more than a second one with fewer parts.
        clear = [("clear", ("z",))]
        both = when(("is", ("x",), 0), [when(("has", ("w",)), [], clear)])
        steps = (*clear, when(("has", ("y",)), [("set", ("z",), 1)]), both, when(("has", ("x",)), [], clear))
        client = self.client(schema, [("w",), ("x",), ("y",)], steps, [("z",)])
        self.check_lost(client, [("w",), ("y",)], ({"x": 0}, {"w": 0, "x": 0, "y": 0}))
        self.check_lost(client, [("y",)], ({"x": 1}, {"x": 1, "y": 0}))

    def test_maps_with_many_names(self):
        names = [one + two for one in "abc" for two in "abcdefgh"]
        schema = Schema({
            "top": {"m": message("m"), **{name: ("map", "number") for name in "tuvw"}}, "m": {name: NUMBER for name in "abcd"},
        })
        sets = tuple([("set", (name,), {inner: 1 for inner in names}) for name in "tuvw"])
        maps = [(name,) for name in "tuvw"]
        each = [when(("has", (one,)), [("set", ("m", two), 1)], [("clear", ("m", two))]) for one, two in zip("tuvw", "abcd")]
        client = self.client(schema, maps, (*each, *sets), [("m", name) for name in "abcd"])
        pair = self.check_soon(first_lost, client, Mask(maps))
        self.assertEqual([paper.content for paper in pair], [{}, {"t": {"a": 0}}])
        every = [("set", ("m", "a"), 1)] + [when(("has", path), [], [("clear", ("m", "a"))]) for path in maps]
        client = self.client(schema, maps, (*every, *sets), [("m", "a")])
        pair = self.check_soon(first_lost, client, Mask(maps))
        self.assertEqual([paper.content for paper in pair], [{}, {name: {"a": 0} for name in "tuvw"}])
        pair = self.check_soon(first_lost, client, Mask(maps[:1]))
        three = {name: {"a": 0} for name in "uvw"}
        self.assertEqual([paper.content for paper in pair], [three, {"t": {"a": 0}, **three}])


class SafeTest(LostTestCase):
    def test_lost_is_raised_anew(self):
        schema = Schema({"top": {"x": NUMBER, "z": NUMBER}})
        client = self.client(schema, [("x",)], (("copy", ("x",), ("z",)),), [("z",)])
        rights = Mask([("x",)])
        pairs = []
        for _ in range(3):
            with self.assertRaises(Lost) as caught:
                need_safe(client, rights)
            pair = caught.exception.pair
            self.assertIsInstance(caught.exception, MaskError)
            self.assertEqual(pair, first_lost(client, rights))
            self.assertEqual([paper.content for paper in pair], [{}, {"x": 0}])
            pair[0][("x",)] = 9
            pair[1].clear(("x",))
            pairs.append(pair)
        self.assertEqual((client.reads, client.writes, rights), (Mask([("x",)]), Mask([("z",)]), Mask([("x",)])))
        self.assertEqual(client.program.steps, (("copy", ("x",), ("z",)),))
        self.assertIsNone(need_safe(client, Mask([("z",)])))

    def test_arguments_by_name(self):
        schema = Schema({"top": {"x": NUMBER}})
        client = self.client(schema, [("x",)], (), [("x",)])
        rights = Mask([("x",)])
        self.assertEqual([paper.content for paper in first_lost(rights=rights, client=client)], [{}, {"x": 0}])
        self.assertIsNone(need_safe(rights=Mask(), client=client))
        with self.assertRaises(Lost):
            need_safe(rights=rights, client=client)


class TogetherTest(LostTestCase):
    def test_wider_rights_lose_no_later_pair(self):
        for number in range(6000, 6120):
            world = World(number)
            client, rights = world.client(), world.mask(2)
            pair = first_lost(client, rights)
            wider = first_lost(client, rights | world.mask(2))
            if pair is not None:
                self.assertIsNotNone(wider)
                self.assertTrue(wider[0] < pair[0] or wider[0] == pair[0] and not pair[1] < wider[1])
            self.assertIsNone(first_lost(client, Mask()))

    def test_where_nothing_is_lost_it_is_as_if_at_once(self):
        for number in range(7000, 7080):
            world = World(number)
            client, rights = world.client(), world.mask(2)
            if first_lost(client, rights) is None:
                for document in world.some_papers(None)[::6]:
                    laters = world.later(document, rights)
                    for later in laters[::max(1, len(laters) // 10)]:
                        paper, other = world.paper(document), world.paper(later)
                        self.assertEqual(client.written(paper, other), client.alone(other))


if __name__ == "__main__":
    unittest.main()
