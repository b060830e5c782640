"""Tests of clients, and of the least papers for which they are not faithful ([6], [7], [8], [11])."""

import unittest

from maskwrites.clients import Client, first_unfaithful
from maskwrites.errors import BadMask, MaskError
from maskwrites.masks import Mask
from maskwrites.papers import Paper
from maskwrites.programs import Program
from maskwrites.schemas import Schema
from tests import flat
from tests.anyvalues import schema_example
from tests.clientcases import World
from tests.leastness import LeastTestCase, when
from tests.samples import FLAG, NUMBER, message

SET_X = ("set", ("x",), 1)
HAS_X = ("has", ("x",))


def client_of(schema, reads, steps, writes):
    return Client(schema, Mask(reads), Program(schema, steps), Mask(writes))


class ClientTest(unittest.TestCase):
    def setUp(self):
        self.schema = Schema(*schema_example())

    def paper(self, content):
        return Paper(self.schema, content)

    def check_read(self, reads, content, told):
        client = client_of(self.schema, reads, (), ())
        paper = self.paper(content)
        self.assertEqual(client.read(paper).content, told)
        self.assertEqual(client.result(paper), client.read(paper))
        self.assertEqual(paper.content, content)

    def check_written(self, writes, steps, content, told, first=None):
        client = client_of(self.schema, (), steps, writes)
        paper = self.paper(content)
        self.assertEqual(client.written(self.paper(first), paper).content, told)
        self.assertEqual(client.alone(paper).content, told)
        self.assertEqual(paper.content, content)

    def test_the_example_of_the_document(self):
        schema = Schema({"top": {"x": NUMBER, "y": NUMBER, "z": NUMBER}})
        client = client_of(schema, [("x",)], (("copy", ("x",), ("z",)),), [("z",)])
        self.assertEqual(client.alone(Paper(schema, {"x": 2})).content, {"x": 2, "z": 2})

    def test_what_is_read(self):
        content = {"x": 1, "f": True, "m": {"a": 2, "b": False, "n": {"c": {"k": 3, "l": 4}, "d": "ab"}}}
        self.check_read([], content, {})
        self.check_read([("x",), ("w",)], content, {"x": 1})
        self.check_read([("m",)], content, {"m": content["m"]})
        self.check_read([("m", "a")], content, {"m": {"a": 2}})
        self.check_read([("m", "g")], content, {})
        self.check_read([("m", "n", "t")], content, {})
        self.check_read([("m", "n", "c")], content, {"m": {"n": {"c": {"k": 3, "l": 4}}}})
        self.check_read([("m", "n", "c", "k"), ("m", "n", "c", "z")], content, {"m": {"n": {"c": {"k": 3}}}})
        self.check_read([("m", "n")], {"m": {"n": {}}}, {"m": {"n": {}}})
        self.check_read([(field,) for field in self.schema.fields(())], content, content)

    def test_what_is_written(self):
        self.check_written([("x",)], (SET_X,), {}, {"x": 1})
        self.check_written([], (SET_X,), {"x": 5}, {"x": 5})
        self.check_written([("x",)], (), {"x": 5, "f": True}, {"f": True})
        self.check_written([("x",)], (SET_X,), {"y": 5}, {"x": 1})
        self.check_written([("y",)], (SET_X,), {"y": 5, "f": True}, {"f": True})
        self.check_written([("x",), ("y",)], (SET_X,), {"y": 5}, {"x": 1})
        self.check_written([("m", "a")], (("set", ("m", "a"), 1),), {"t": {"k": "a"}, "x": 1}, {"m": {"a": 1}, "x": 1})
        self.check_written([("m", "a")], (("set", ("m", "b"), True),), {"t": {"k": "a"}}, {"t": {"k": "a"}})
        self.check_written([("m", "a")], (("set", ("m", "b"), True),), {"m": {"a": 1}}, {"m": {}})

    def test_messages_and_maps_are_written_as_a_whole(self):
        step = ("set", ("m", "n", "d"), "a")
        content = {"m": {"a": 1, "n": {"t": 5, "c": {"k": 1}}}}
        self.check_written([("m",)], (step,), content, {"m": {"n": {"d": "a"}}})
        self.check_written([("m", "n")], (step,), content, {"m": {"a": 1, "n": {"d": "a"}}})
        self.check_written([("m", "n", "d")], (step,), content, {"m": {"a": 1, "n": {"t": 5, "c": {"k": 1}, "d": "a"}}})
        self.check_written([("m",)], (("set", ("m",), {}),), content, {"m": {}})
        self.check_written([("m",)], (), content, {})
        name = ("set", ("m", "n", "c", "l"), 2)
        self.check_written([("m", "n", "c")], (name,), content, {"m": {"a": 1, "n": {"t": 5, "c": {"l": 2}}}})
        both = {"m": {"a": 1, "n": {"t": 5, "c": {"k": 1, "l": 2}}}}
        self.check_written([("m", "n", "c", "l")], (name,), content, both)
        self.check_written([("m", "n", "c", "k")], (name,), content, {"m": {"a": 1, "n": {"t": 5}}})
        self.check_written([("m", "n", "c", "k"), ("m", "n", "c", "l")], (name,), content,
                           {"m": {"a": 1, "n": {"t": 5, "c": {"l": 2}}}})

    def test_a_result_goes_into_another_paper(self):
        client = client_of(self.schema, [("x",), ("m", "a")], (("copy", ("x",), ("m", "a")),), [("m", "a")])
        paper, later = self.paper({"x": 3, "f": True}), self.paper({"y": 4, "m": {"a": 7, "e": {}}})
        self.assertEqual(client.written(paper, later).content, {"y": 4, "m": {"a": 3, "e": {}}})
        self.assertEqual(client.written(later, paper).content, {"x": 3, "f": True})
        self.assertEqual(client.alone(later).content, {"y": 4, "m": {"e": {}}})
        self.assertEqual(client.result(paper).content, {"x": 3, "m": {"a": 3}})

    def test_what_is_told_is_new(self):
        client = client_of(self.schema, [("m",)], (), [("m",)])
        paper = self.paper({"m": {"a": 1}})
        for told in (client.read(paper), client.result(paper), client.alone(paper), client.written(paper, paper)):
            self.assertIs(type(told), Paper)
            told[("m", "a")] = 9
            told[("f",)] = True
        self.assertEqual(paper.content, {"m": {"a": 1}})
        self.assertEqual(client.alone(paper), paper)

    def test_against_flat_documents(self):
        for number in range(40):
            world = World(number)
            client = world.client()
            some = world.some_papers(None)
            for document, other in zip(some, reversed(some)):
                paper, later = world.paper(document), world.paper(other)
                read = flat.read_by(world.schema, client.reads.paths, document)
                self.assertEqual(flat.parts_of(client.read(paper)), read)
                self.assertEqual(flat.parts_of(client.result(paper)), world.result(client, document))
                self.assertEqual(flat.parts_of(client.written(paper, later)), world.written(client, document, other))
                self.assertEqual(flat.parts_of(client.alone(paper)), world.written(client, document, document))
                self.assertEqual(paper, world.paper(document))
                self.assertEqual(later, world.paper(other))

    def test_masks_with_paths_that_are_none_of_the_schema(self):
        good, program = Mask([("x",), ("t", "anything")]), Program(self.schema, (SET_X,))
        for path in (("q",), ("x", "k"), ("m", "q"), ("t", "k", "k"), ("m", "n", "c", "k", "k"), ("top",), ("m", "e", "a")):
            bad, other = Mask([("f",), path]), Mask([("q",)])
            for reads, writes, told in ((bad, good, bad), (good, bad, bad), (bad, other, bad), (other, bad, other)):
                with self.assertRaises(BadMask) as caught:
                    Client(self.schema, reads, program, writes)
                self.assertIs(caught.exception.value, told)
                self.assertIsInstance(caught.exception, MaskError)

    def test_what_it_was_made_of(self):
        reads, program, writes = Mask([("x",)]), Program(self.schema, (SET_X,)), Mask([("m",), ("t", "k")])
        client = Client(self.schema, reads, program, writes)
        self.assertEqual(client.schema, self.schema)
        self.assertEqual((client.reads, client.writes, client.program), (reads, writes, program))
        with self.assertRaises(AttributeError):
            client.reads = Mask()

    def test_arguments_by_name(self):
        program = Program(self.schema, (SET_X,))
        client = Client(writes=Mask([("x",)]), program=program, reads=Mask([("f",)]), schema=self.schema)
        self.assertEqual((client.reads, client.writes), (Mask([("f",)]), Mask([("x",)])))
        paper = self.paper({"f": True})
        self.assertEqual(client.read(paper=paper), paper)
        self.assertEqual(client.result(paper=paper).content, {"f": True, "x": 1})
        self.assertEqual(client.written(later=self.paper({}), paper=paper).content, {"x": 1})
        self.assertEqual(client.alone(paper=paper).content, {"f": True, "x": 1})
        self.assertIsNone(first_unfaithful(client=client))


class UnfaithfulTest(LeastTestCase):
    def check(self, schema, reads, steps, writes, content):
        client = client_of(schema, reads, steps, writes)
        told = first_unfaithful(client)
        if content is None:
            self.assertIsNone(told)
        else:
            self.check_content(told, content)
            self.assertNotEqual(client.alone(told), client.program(told))

    def test_the_example_of_the_document(self):
        schema = Schema({"top": {"x": NUMBER, "y": NUMBER, "z": NUMBER}})
        copy = (("copy", ("x",), ("z",)),)
        self.check(schema, [("x",)], copy, [("z",)], None)
        step = when(("has", ("y",)), [("set", ("z",), 1)])
        self.check(schema, [("x",)], (step,), [("z",)], {"y": 0})

    def test_reading_too_little(self):
        schema = Schema({"top": {"x": NUMBER, "y": NUMBER, "z": NUMBER, "f": FLAG}})
        copy = ("copy", ("x",), ("z",))
        self.check(schema, [], (copy,), [("z",)], {"x": 0})
        self.check(schema, [("y",)], (copy,), [("z",)], {"x": 0})
        self.check(schema, [("x",)], (when(("is", ("y",), 3), [copy]),), [("z",)], {"z": 0})
        self.check(schema, [("x",), ("z",)], (when(("is", ("y",), 3), [copy]),), [("z",)], {"x": 0, "y": 3})
        self.check(schema, [("x",), ("y",)], (when(("is", ("y",), 3), [copy]),), [("z",)], {"z": 0})
        self.check(schema, [("x",), ("y",), ("z",)], (when(("is", ("y",), 3), [copy]),), [("z",)], None)
        self.check(schema, [("x",), ("z",)], (when(("same", ("x",), ("y",)), [], [copy]),), [("z",)], {"x": 0, "y": 0})
        self.check(schema, [("f",)], (when(("is", ("f",), True), [SET_X], [("clear", ("x",))]),), [("x",)], None)

    def test_reading_too_little_for_a_choice(self):
        schema = Schema({"top": {"x": NUMBER, "y": NUMBER, "z": NUMBER}}, {"top": [("x", "y")]})
        self.check(schema, [], (SET_X,), [("x",)], None)
        self.check(schema, [], (SET_X,), [("x",), ("y",)], None)
        self.check(schema, [("x",)], (when(HAS_X, [("clear", ("x",))]),), [("x",)], None)
        # What is not read is unset in the result, and cleared where it may be written.
        self.check(schema, [], (), [("y",)], {"y": 0})
        self.check(schema, [("y",)], (), [("y",)], None)
        steps = (SET_X, when(("has", ("y",)), [("set", ("z",), 1)]))
        self.check(schema, [("z",)], steps, [("x",), ("z",)], None)
        turned = tuple(reversed(steps))
        self.check(schema, [("z",)], turned, [("x",), ("z",)], {"y": 0})

    def test_writing_too_little(self):
        schema = Schema({"top": {"x": NUMBER, "y": NUMBER, "z": NUMBER}}, {"top": [("x", "y")]})
        self.check(schema, [("x",)], (SET_X,), [], {})
        self.check(schema, [("x",)], (("clear", ("x",)),), [], {"x": 0})
        self.check(schema, [("x",), ("z",)], (("copy", ("x",), ("z",)),), [("x",)], {"x": 0})
        self.check(schema, [("x",), ("y",)], (("clear", ("x",)), ("clear", ("y",))), [("x",)], {"y": 0})
        self.check(schema, [("x",), ("y",)], (("set", ("x",), 1), ("clear", ("x",))), [("x",)], {"y": 0})

    def test_writing_more_than_is_read(self):
        schema = Schema({"top": {"x": NUMBER, "m": message("m")}, "m": {"a": NUMBER, "e": message("e")}, "e": {}})
        self.check(schema, [], (), [("x",)], {"x": 0})
        self.check(schema, [("m", "a")], (), [("m",)], {"m": {}})
        self.check(schema, [("m", "a"), ("m", "e")], (), [("m",)], {"m": {}})
        self.check(schema, [("m",)], (), [("m",)], None)
        self.check(schema, [("m", "a")], (("set", ("m", "a"), 1),), [("m",)], {"m": {"e": {}}})
        self.check(schema, [("m", "a")], (("set", ("m", "a"), 1),), [("m", "a")], None)

    def test_messages_that_are_made_or_emptied(self):
        schema = Schema({"top": {"x": NUMBER, "m": message("m")}, "m": {"a": NUMBER, "b": NUMBER}})
        clear, empty = ("clear", ("m", "a")), ("set", ("m",), {})
        made = (("set", ("m", "a"), 1), clear)
        self.check(schema, [("m",)], made, [("m",)], None)
        self.check(schema, [("m",)], made, [("m", "a")], {})
        self.check(schema, [("m", "a")], (clear,), [("m", "a")], None)
        self.check(schema, [("m", "a")], (empty,), [("m",)], None)
        self.check(schema, [], (empty,), [("m", "a"), ("m", "b")], {})
        test = when(("has", ("m",)), [SET_X])
        self.check(schema, [("m", "a"), ("x",)], (test,), [("x",)], {"m": {}})
        self.check(schema, [("m", "a"), ("m", "b"), ("x",)], (test,), [("x",)], {"m": {}})
        self.check(schema, [("m",), ("x",)], (test,), [("x",)], None)
        self.check(schema, [("x",)], (("clear", ("m",)), test), [("m",), ("x",)], None)
        self.check(schema, [("m", "b"), ("x",)], (empty, test), [("m",), ("x",)], None)

    def test_messages_above_what_is_read(self):
        schema = Schema({
            "top": {"m": message("m"), "x": NUMBER}, "m": {"a": NUMBER, "n": message("n"), "t": ("map", "number")},
            "n": {"b": NUMBER},
        })
        for path in (("m", "n"), ("m", "n", "b"), ("m", "a"), ("m", "t"), ("m", "t", "k")):
            # The messages above are read just where what is below them is there.
            steps = (when(("has", ("m",)), [when(("has", path), [SET_X])]),)
            self.check(schema, [path, ("x",)], steps, [("x",)], None)
            steps = (when(("has", ("m",)), [SET_X]),)
            self.check(schema, [path, ("x",)], steps, [("x",)], {"m": {}})
            self.check(schema, [("x",)], steps, [("x",)], {"m": {}})
        for paths in ([("m", "a"), ("m", "n")], [("m", "n", "b"), ("m", "t")]):
            steps = (when(("has", ("m",)), [when(("has", path), [SET_X]) for path in paths]),)
            self.check(schema, paths + [("x",)], steps, [("x",)], None)
        steps = (when(("has", ("m", "n")), [when(("has", ("m",)), [SET_X])]),)
        self.check(schema, [("m", "n", "b"), ("x",)], steps, [("x",)], {"m": {"n": {}}})

    def test_names_of_maps(self):
        schema = Schema({"top": {"t": ("map", "number"), "x": NUMBER}})
        has = when(("has", ("t",)), [SET_X])
        self.check(schema, [("t",), ("x",)], (has,), [("x",)], None)
        self.check(schema, [("t", "k"), ("x",)], (has,), [("x",)], {"t": {"a": 0}})
        self.check(schema, [("t", "a"), ("x",)], (has,), [("x",)], {"t": {"aa": 0}})
        self.check(schema, [], (("set", ("t", "k"), 1),), [("t", "k")], None)
        self.check(schema, [], (("set", ("t", "k"), 1),), [("t",)], {"t": {"a": 0}})
        self.check(schema, [("t",)], (("set", ("t", "k"), 1),), [("t",)], None)
        self.check(schema, [], (("clear", ("t",)),), [("t",)], None)
        self.check(schema, [("t",)], (("clear", ("t",)),), [("t", "k")], {"t": {"a": 0}})
        self.check(schema, [("t", "a")], (("copy", ("t", "a"), ("t", "b")),), [("t", "b")], None)
        self.check(schema, [("t", "b")], (("copy", ("t", "a"), ("t", "b")),), [("t", "b")], {"t": {"a": 0}})

    def test_against_all_small_papers(self):
        told_ones = 0
        for number in range(300):
            world = World(number)
            client = world.client()
            steps = client.program.steps
            told = first_unfaithful(client)
            told_ones += told is not None

            def is_so(document):
                return world.written(client, document, document) != flat.done(world.schema, steps, document)

            if told is not None:
                self.assertTrue(is_so(flat.parts_of(told)))
            for document in world.papers:
                if told is not None and flat.order_key(document) >= flat.order_key(flat.parts_of(told)):
                    break
                self.assertFalse(is_so(document), (number, document))
        self.assertGreater(told_ones, 60)
        self.assertLess(told_ones, 240)

    def test_reading_and_writing_all_is_faithful(self):
        for number in range(60):
            world = World(number)
            program = world.chance.program(5, 4)
            self.assertIsNone(first_unfaithful(Client(world.schema, world.tops, program, world.tops)))

    def test_a_new_paper_each_time(self):
        schema = Schema({"top": {"x": NUMBER}})
        client = client_of(schema, [], (), [("x",)])
        first_unfaithful(client).clear(("x",))
        self.check_content(first_unfaithful(client), {"x": 0})

    def test_as_large_as_clients_may_be(self):
        schema = Schema({
            "top": {"m": message("m"), "n": message("m"), "o": message("m"), "p": message("m")},
            "m": {name: NUMBER for name in "abcdef"},
        }, {"m": [("a", "b", "c"), ("d", "e", "f")]})
        tops = [("m",), ("n",), ("o",), ("p",)]
        copies = [("copy", ("n", "b"), ("o", "a"))], [("copy", ("o", "d"), ("m", "e"))]
        steps = (when(("same", ("m", "a"), ("n", "a")), *copies), ("copy", ("p", "a"), ("o", "c")))
        self.assertIsNone(self.check_soon(first_unfaithful, client_of(schema, tops, steps, tops)))
        told = self.check_soon(first_unfaithful, client_of(schema, tops, steps, tops[:3] + [("p", "b")]))
        self.assertIsNone(told)
        told = self.check_soon(first_unfaithful, client_of(schema, tops[1:], steps, tops[:3]))
        self.check_content(told, {"m": {}})


if __name__ == "__main__":
    unittest.main()
