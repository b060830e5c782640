"""Tests of stores ([2], [11], [12], the heading of stores)."""

import random
import unittest

from maskwrites.clients import Client
from maskwrites.errors import BadMask, BadPaper, MaskError, NothingToUndo, Refused, UnknownNumber
from maskwrites.masks import Mask
from maskwrites.papers import Paper
from maskwrites.programs import Program
from maskwrites.schemas import Schema
from maskwrites.stores import Store
from tests import flat
from tests.anyvalues import any_values, schema_example
from tests.clientcases import World, guarded
from tests.samples import NUMBER, message

SCHEMA = Schema({"top": {"x": NUMBER, "y": NUMBER, "z": NUMBER, "m": message("m")}, "m": {"a": NUMBER, "b": NUMBER}},
                {"top": [("x", "y")]})
ALL = [("m",), ("x",), ("y",), ("z",)]


def program_of(*steps):
    return Program(SCHEMA, steps)


def client_of(reads, writes, *steps):
    return Client(SCHEMA, Mask(reads), program_of(*steps), Mask(writes))


def adding():
    """Return a client that adds one to what it reads, as long as this is small."""
    steps = []
    for value in (2, 1, 0):
        steps = [("when", ("is", ("z",), value), (("set", ("z",), value + 1),), tuple(steps))]
    return client_of([("z",)], [("z",)], *steps)


class StoreTestCase(unittest.TestCase):
    def check_error(self, kind, word, value, call, *arguments):
        with self.assertRaises(MaskError) as caught:
            call(*arguments)
        self.assertIs(type(caught.exception), kind)
        self.assertIs(getattr(caught.exception, word), value)

    def check_refused(self, store, number):
        with self.assertRaises(Refused) as caught:
            store.finish(number)
        self.assertEqual(caught.exception.number, number)

    def state_of(self, store):
        return (store.paper().content, store.begun(), store.history())


class StoreTest(StoreTestCase):
    def test_the_example_of_the_document(self):
        schema = Schema({"top": {"x": NUMBER, "z": NUMBER}})
        client = Client(schema, Mask([("x",)]), Program(schema, (("copy", ("x",), ("z",)),)), Mask([("z",)]))
        store = Store(schema, {"x": 1})
        self.assertEqual(store.begin(client, Mask([("x",)])), 1)
        self.assertIsNone(store.run(Program(schema, (("set", ("x",), 2),))))
        self.assertEqual([store.begin(client, Mask()), store.finish(2), store.begun()], [2, True, [1]])
        self.assertEqual(store.paper().content, {"x": 2, "z": 2})
        self.check_refused(store, 1)
        self.assertEqual(store.paper().content, {"x": 2, "z": 2})
        self.assertEqual(store.begun(), [])

    def test_its_paper_is_a_new_one_each_time(self):
        content = {"m": {"a": 1}}
        store = Store(SCHEMA, content)
        content["m"]["a"] = 9
        content["x"] = 1
        for _ in range(2):
            paper = store.paper()
            self.assertIs(type(paper), Paper)
            self.assertEqual(paper.schema, SCHEMA)
            self.assertEqual(paper.content, {"m": {"a": 1}})
            paper[("m", "a")] = 5
            paper.clear(("m",))

    def test_contents_that_are_none(self):
        self.assertEqual(Store(SCHEMA).paper().content, {})
        self.assertEqual(Store(SCHEMA, None).paper(), Paper(SCHEMA))
        for value in any_values() + [{"x": 1, "y": 1}, {"m": {"c": 1}}, {"x": True}]:
            if value is None or SCHEMA.is_content(value):
                self.assertEqual(Store(SCHEMA, value).paper(), Paper(SCHEMA, value))
            else:
                self.check_error(BadPaper, "value", value, Store, SCHEMA, value)

    def test_running_is_as_the_program(self):
        for number in range(60):
            world = World(number)
            store = Store(world.schema, flat.content_of(world.random.choice(world.papers)))
            paper, programs = store.paper(), []
            for _ in range(5):
                programs.append(world.chance.program(3))
                paper = programs[-1](paper)
                self.assertIsNone(store.run(programs[-1]))
                self.assertEqual(store.paper(), paper)
            self.assertEqual(store.history(), [("run", program) for program in programs])

    def test_two_clients_that_both_add(self):
        store = Store(SCHEMA, {"z": 0})
        self.assertEqual([store.begin(adding(), Mask()), store.begin(adding(), Mask())], [1, 2])
        self.assertEqual([store.finish(1), store.finish(2)], [True, True])
        # What the first one added is lost.
        self.assertEqual(store.paper().content, {"z": 1})
        store = Store(SCHEMA, {"z": 0})
        guard = Mask([("z",)])
        self.assertEqual([store.begin(adding(), guard), store.begin(adding(), guard)], [1, 2])
        self.assertIs(store.finish(2), True)
        self.check_refused(store, 1)
        self.assertEqual(store.begin(adding(), guard), 3)
        self.assertIs(store.finish(3), True)
        self.assertEqual(store.paper().content, {"z": 2})
        self.assertEqual(store.history(), [("write", 2), ("write", 3)])

    def test_what_the_guard_covers(self):
        client = client_of([("x",)], [("z",)], ("copy", ("x",), ("z",)))
        rows = [
            ([("y",)], ("set", ("z",), 5), True), ([("y",)], ("set", ("x",), 5), True), ([("x",)], ("set", ("x",), 5), False),
            ([("x",)], ("set", ("x",), 1), True), ([("x",)], ("set", ("y",), 1), False), ([("y",)], ("set", ("y",), 1), False),
            ([("m",)], ("set", ("m",), {}), False), ([("m", "a")], ("set", ("m",), {}), True), ([], ("clear", ("x",)), True),
            ([("m", "a")], ("set", ("m", "a"), 0), False), ([("m",), ("z",)], ("clear", ("x",)), True),
            ([("m", "a"), ("m", "b")], ("set", ("m",), {}), True), ([("m",)], ("clear", ("m",)), True),
        ]
        for guard, step, answer in rows:
            store = Store(SCHEMA, {"x": 1})
            store.begin(client, Mask(guard))
            store.run(program_of(step))
            paper = store.paper()
            if answer:
                self.assertIs(store.finish(1), True)
                self.assertEqual(store.paper(), client.written(Paper(SCHEMA, {"x": 1}), paper))
                self.assertEqual(store.history(), [("run", program_of(step)), ("write", 1)])
            else:
                self.check_refused(store, 1)
                self.assertEqual(store.paper(), paper)
                self.assertEqual(store.history(), [("run", program_of(step))])
            self.assertEqual(store.begun(), [])

    def test_the_guard_looks_at_more_than_is_read(self):
        store = Store(SCHEMA, {"z": 1, "m": {"a": 1}})
        self.assertEqual(store.begin(client_of([], [("x",)], ("set", ("x",), 7)), Mask([("m", "a")])), 1)
        store.run(program_of(("set", ("m", "a"), 2)))
        self.check_refused(store, 1)

    def test_what_went_away_and_came_back(self):
        store = Store(SCHEMA, {"m": {"a": 1, "b": 2}})
        client = client_of([("m",)], [("z",)], ("copy", ("m", "a"), ("z",)))
        store.begin(client, Mask([("m",)]))
        store.begin(client, Mask([("m", "a")]))
        store.begin(client, Mask([("m",)]))
        store.run(program_of(("clear", ("m",))))
        store.run(program_of(("set", ("m", "a"), 1)))
        self.check_refused(store, 1)
        self.assertIs(store.finish(2), True)
        store.run(program_of(("set", ("m", "b"), 2)))
        self.assertIs(store.finish(3), True)
        self.assertEqual(store.paper().content, {"m": {"a": 1, "b": 2}, "z": 1})

    def test_a_choice_that_clears_and_a_mask_of_more_than_is_read(self):
        store = Store(SCHEMA, {"y": 4})
        store.begin(client_of([], [("x",)], ("set", ("x",), 7)), Mask())
        self.assertIs(store.finish(1), True)
        self.assertEqual(store.paper().content, {"x": 7})
        store.begin(client_of([("z",)], [("m",), ("z",), ("x",)]), Mask())
        store.run(program_of(("set", ("m",), {"a": 1})))
        self.assertIs(store.finish(2), True)
        self.assertEqual(store.paper().content, {})

    def test_numbers(self):
        store = Store(SCHEMA)
        client = client_of([], [])
        self.assertEqual([store.begin(client, Mask()) for _ in range(12)], list(range(1, 13)))
        for number in (11, 3, 7):
            self.assertIs(store.finish(number), True)
        self.assertEqual(store.begun(), [1, 2, 4, 5, 6, 8, 9, 10, 12])
        store.begun().clear()
        store.history().append(1)
        self.assertEqual(len(store.begun()), 9)
        self.assertEqual(store.history(), [("write", 11), ("write", 3), ("write", 7)])
        self.assertEqual(store.begin(client, Mask()), 13)


class WrongTest(StoreTestCase):
    def filled(self):
        store = Store(SCHEMA, {"z": 1})
        store.begin(adding(), Mask())
        store.begin(adding(), Mask([("z",)]))
        store.finish(1)
        store.run(program_of(("set", ("x",), 1)))
        return store

    def test_numbers_that_are_none(self):
        store = self.filled()
        before = self.state_of(store)
        for value in any_values() + [3, 4, -2, 10 ** 60 - 2, 2 ** 64, "2", (2,), [2]]:
            if value != 2:
                self.check_error(UnknownNumber, "number", value, store.finish, value)
                self.assertEqual(self.state_of(store), before)
        self.check_error(UnknownNumber, "number", True, Store(SCHEMA).finish, True)
        with self.assertRaises(Refused):
            store.finish(2)
        # It has ended then.
        self.check_error(UnknownNumber, "number", 2, store.finish, 2)

    def test_true_is_no_number(self):
        store = Store(SCHEMA)
        store.begin(adding(), Mask())
        self.check_error(UnknownNumber, "number", True, store.finish, True)
        self.assertEqual(store.begun(), [1])
        self.check_error(NothingToUndo, "many", True, store.undo, True)
        self.check_error(NothingToUndo, "many", False, store.undo, False)
        self.assertEqual(store.begun(), [1])

    def test_what_cannot_be_undone(self):
        store = self.filled()
        before = self.state_of(store)
        for value in any_values() + [5, 6, -1, 10 ** 59]:
            if value not in (0, 1, 2, 3, 4) or isinstance(value, bool):
                self.check_error(NothingToUndo, "many", value, store.undo, value)
                self.assertEqual(self.state_of(store), before)
        self.assertIsNone(store.undo(0))
        self.assertEqual(self.state_of(store), before)
        self.assertIsNone(store.undo(4))
        self.assertEqual(self.state_of(store), ({"z": 1}, [], []))
        self.check_error(NothingToUndo, "many", 1, store.undo, 1)
        self.assertIsNone(store.undo(0))

    def test_guards_with_paths_that_are_none(self):
        store = self.filled()
        before = self.state_of(store)
        for path in (("q",), ("z", "k"), ("m", "c"), ("top",), ("m", "a", "b")):
            guard = Mask([("x",), path])
            self.check_error(BadMask, "value", guard, store.begin, adding(), guard)
            self.assertEqual(self.state_of(store), before)
        self.assertEqual(store.begin(adding(), Mask([("m", "b")])), 3)


class UndoTest(StoreTestCase):
    def test_each_kind_of_deed(self):
        store = Store(SCHEMA, {"z": 0})
        store.begin(adding(), Mask([("z",)]))
        store.begin(adding(), Mask([("z",)]))
        store.finish(2)
        self.check_refused(store, 1)
        store.run(program_of(("set", ("x",), 1)))
        self.assertEqual(self.state_of(store), ({"x": 1, "z": 1}, [], [("write", 2), ("run", program_of(("set", ("x",), 1)))]))
        store.undo(1)
        self.assertEqual(self.state_of(store), ({"z": 1}, [], [("write", 2)]))
        store.undo(1)
        self.assertEqual(self.state_of(store), ({"z": 1}, [1], [("write", 2)]))
        # A client whose finish was taken back may finish again.
        self.check_refused(store, 1)
        store.undo(2)
        self.assertEqual(self.state_of(store), ({"z": 0}, [1, 2], []))
        self.assertIs(store.finish(1), True)
        self.check_refused(store, 2)
        self.assertEqual(store.paper().content, {"z": 1})
        store.undo(3)
        self.assertEqual(self.state_of(store), ({"z": 0}, [1], []))
        # Numbers are given again.
        self.assertEqual(store.begin(adding(), Mask()), 2)
        store.undo(2)
        self.assertEqual([store.begin(adding(), Mask()), store.begin(adding(), Mask())], [1, 2])

    def test_a_number_given_again_is_another_client(self):
        store = Store(SCHEMA, {"z": 0})
        store.begin(adding(), Mask())
        store.undo(1)
        store.run(program_of(("set", ("z",), 2)))
        self.assertEqual(store.begin(client_of([("z",)], [("m",)], ("copy", ("z",), ("m", "a"))), Mask()), 1)
        self.assertIs(store.finish(1), True)
        self.assertEqual(store.paper().content, {"m": {"a": 2}, "z": 2})

    def test_arguments_by_name(self):
        store = Store(content={"z": 0}, schema=SCHEMA)
        self.assertEqual(store.begin(guard=Mask(), client=adding()), 1)
        self.assertIs(store.finish(number=1), True)
        self.assertIsNone(store.run(program=program_of(("set", ("x",), 1))))
        self.assertEqual(store.paper().content, {"x": 1, "z": 1})
        self.assertIsNone(store.undo(many=3))
        self.assertEqual(store.paper().content, {"z": 0})

    def test_two_stores_go_ways_of_their_own(self):
        content = {"z": 0, "m": {"a": 1}}
        one, two = Store(SCHEMA, content), Store(SCHEMA, content)
        client, program = adding(), program_of(("clear", ("m",)))
        for store in (one, two):
            self.assertEqual(store.begin(client, Mask()), 1)
        one.run(program)
        one.finish(1)
        self.assertEqual(self.state_of(one), ({"z": 1}, [], [("run", program), ("write", 1)]))
        self.assertEqual(self.state_of(two), ({"z": 0, "m": {"a": 1}}, [1], []))
        two.run(program)
        self.assertEqual(two.paper().content, {"z": 0})
        self.assertEqual(content, {"z": 0, "m": {"a": 1}})


class Model:
    """A store told once more: the deeds as they were asked for, done again from the beginning for each question."""

    def __init__(self, world, document):
        self.world, self.first, self.deeds = world, document, []

    def play(self):
        world, document = self.world, self.first
        begun, history, last = {}, [], 0
        for deed in self.deeds:
            if deed[0] == "begin":
                last += 1
                begun[last] = (deed[1], deed[2], document)
            elif deed[0] == "run":
                document = flat.done(world.schema, deed[1].steps, document)
                history.append(("run", deed[1]))
            else:
                client, guard, before = begun.pop(deed[1])
                if guarded(guard, before) == guarded(guard, document):
                    document = world.written(client, before, document)
                    history.append(("write", deed[1]))
        return document, begun, history


class TogetherTest(StoreTestCase):
    def test_deeds_by_chance(self):
        refused = written = 0
        for number in range(60):
            world = World(number)
            chance = random.Random(number)
            model = Model(world, chance.choice(world.papers))
            store = Store(world.schema, flat.content_of(model.first))
            for _ in range(25):
                _, begun, before = model.play()
                word = chance.choice(("begin", "begin", "run", "finish", "finish", "finish", "undo"))
                if word == "begin":
                    model.deeds.append(("begin", world.client(), world.mask(2)))
                    self.assertEqual(store.begin(*model.deeds[-1][1:]), len(begun) + self.ended(model))
                elif word == "run":
                    model.deeds.append(("run", world.chance.program(3)))
                    store.run(model.deeds[-1][1])
                elif word == "undo":
                    many = chance.randint(0, min(4, len(model.deeds)))
                    del model.deeds[len(model.deeds) - many:]
                    store.undo(many)
                elif begun:
                    model.deeds.append(("finish", chance.choice(sorted(begun))))
                    if len(model.play()[2]) > len(before):
                        self.assertIs(store.finish(model.deeds[-1][1]), True)
                        written += 1
                    else:
                        self.check_refused(store, model.deeds[-1][1])
                        refused += 1
                document, begun, history = model.play()
                self.assertEqual(flat.parts_of(store.paper()), document)
                self.assertEqual(store.begun(), sorted(begun))
                self.assertEqual(store.history(), history)
        self.assertGreater(written, 100)
        self.assertGreater(refused, 20)

    def ended(self, model):
        return 1 + sum([deed[0] == "finish" for deed in model.deeds])

    def test_taken_back_and_done_again(self):
        for number in range(40):
            world = World(number)
            store = Store(world.schema, flat.content_of(world.random.choice(world.papers)))
            deeds = []
            for _ in range(4):
                client, guard, program = world.client(), world.mask(2), world.chance.program(2)
                deeds.extend([(store.begin, client, guard), (store.run, program)])
            deeds.extend([(store.finish, many) for many in (2, 1, 4)])
            states = [self.state_of(store)]
            for deed in deeds:
                self.do(deed)
                states.append(self.state_of(store))
            for many in range(len(deeds) + 1):
                store.undo(many)
                self.assertEqual(self.state_of(store), states[len(deeds) - many])
                for deed in deeds[len(deeds) - many:]:
                    self.do(deed)
                self.assertEqual(self.state_of(store), states[-1])

    def do(self, deed):
        try:
            deed[0](*deed[1:])
        except Refused:
            pass

    def test_history_done_again_in_another_store(self):
        for number in range(60):
            world = World(number)
            content = flat.content_of(world.random.choice(world.papers))
            one, two = Store(world.schema, content), Store(world.schema, content)
            for _ in range(4):
                one.run(world.chance.program(3))
            for word, program in one.history():
                self.assertEqual(word, "run")
                two.run(program)
            self.assertEqual(one.paper(), two.paper())
            self.assertEqual(one.history(), two.history())

    def test_a_client_that_nobody_comes_between(self):
        for number in range(100):
            world = World(number)
            store = Store(world.schema, flat.content_of(world.random.choice(world.papers)))
            client, paper = world.client(), store.paper()
            store.begin(client, world.mask(3))
            self.assertIs(store.finish(1), True)
            self.assertEqual(store.paper(), client.alone(paper))

    def test_a_guard_that_covers_what_is_read(self):
        written = 0
        for number in range(150):
            world = World(number)
            store = Store(world.schema, flat.content_of(world.random.choice(world.papers)))
            client = world.client()
            store.begin(client, client.reads | world.mask(1))
            store.run(world.chance.program(1))
            paper = store.paper()
            try:
                store.finish(1)
                written += 1
                self.assertEqual(store.paper(), client.alone(paper))
            except Refused:
                self.assertEqual(store.paper(), paper)
        self.assertGreater(written, 40)
        self.assertLess(written, 140)

    def test_a_large_schema(self):
        schema = Schema(*schema_example())
        tops = Mask([(field,) for field in schema.fields(())])
        program = Program(schema, (("copy", ("x",), ("m", "a")), ("set", ("m", "n", "c", "k"), 5)))
        store = Store(schema, {"x": 3, "t": {"k": "a"}, "f": True})
        store.begin(Client(schema, tops, program, tops), tops)
        self.assertIs(store.finish(1), True)
        self.assertEqual(store.paper().content, {"f": True, "x": 3, "m": {"a": 3, "n": {"c": {"k": 5}}}})


if __name__ == "__main__":
    unittest.main()
