"""Tests of pairs that programs muddle, and of what must be kept to tell them apart ([6], [12], the heading of undo)."""

import itertools
import unittest

from maskwrites.masks import Mask
from maskwrites.papers import Paper
from maskwrites.programs import Program
from maskwrites.schemas import Schema
from maskwrites.undo import first_muddled, least_kept
from tests import flat
from tests.anyvalues import schema_example
from tests.clientcases import World, guarded, pair_key
from tests.leastness import LeastTestCase, when
from tests.samples import FLAG, NUMBER, TEXT, message


class UndoTestCase(LeastTestCase):
    def check(self, schema, steps, kept, contents):
        """Check the contents of the least pair that steps muddle beside the paths kept, None for none."""
        program, mask = Program(schema, steps), Mask(kept)
        pair = first_muddled(program, mask)
        if contents is None:
            self.assertIsNone(pair)
            return
        self.assertIs(type(pair), tuple)
        self.assertEqual([paper.content for paper in pair], list(contents))
        first, second = pair
        self.assertTrue(first < second)
        self.assertEqual(program(first), program(second))
        self.assertEqual(first.only(mask), second.only(mask))


class MuddledTest(UndoTestCase):
    def test_the_example_of_the_document(self):
        schema = Schema({"top": {"x": NUMBER, "y": NUMBER}})
        self.check(schema, (("clear", ("x",)),), [], ({}, {"x": 0}))
        self.check(schema, (("clear", ("x",)),), [("y",)], ({}, {"x": 0}))
        self.check(schema, (("clear", ("x",)),), [("x",)], None)

    def test_programs_that_lose_nothing(self):
        schema = Schema({"top": {"f": FLAG, "g": FLAG, "t": ("map", "text"), "x": NUMBER, "y": NUMBER, "z": NUMBER}})
        self.check(schema, (), [], None)
        self.check(schema, (when(("has", ("x",))),), [], None)
        self.check(schema, (when(("has", ("x",)), [], [("clear", ("x",))]),), [], None)
        # A flag is turned about.
        turn = when(("is", ("f",), True), [("set", ("f",), False)], [when(("has", ("f",)), [("set", ("f",), True)])])
        self.check(schema, (turn,), [], None)
        self.check(schema, (when(("is", ("f",), True), [("set", ("f",), False)]),), [], ({"f": False}, {"f": True}))

    def test_copies(self):
        schema = Schema({"top": {"x": NUMBER, "y": NUMBER, "z": NUMBER}})
        copy = ("copy", ("x",), ("y",))
        self.check(schema, (copy,), [], ({}, {"y": 0}))
        self.check(schema, (copy,), [("x",)], ({}, {"y": 0}))
        self.check(schema, (copy,), [("y",)], None)
        exchange = (("copy", ("x",), ("z",)), ("copy", ("y",), ("x",)), ("copy", ("z",), ("y",)))
        self.check(schema, exchange, [("z",)], None)
        self.check(schema, exchange, [], ({}, {"z": 0}))
        self.check(schema, exchange + (("clear", ("z",)),), [("z",)], None)
        self.check(schema, exchange + (("clear", ("x",)),), [("z",)], ({}, {"y": 0}))

    def test_values_are_told_apart(self):
        for kind, values in ((NUMBER, (0, 1)), (FLAG, (False, True)), (TEXT, ("", "a"))):
            schema = Schema({"top": {"x": kind, "y": kind}})
            has = when(("has", ("x",)), [("set", ("x",), values[1])])
            self.check(schema, (has,), [], ({"x": values[0]}, {"x": values[1]}))
            self.check(schema, (has,), [("x",)], None)
            same = when(("same", ("x",), ("y",)), [], [("clear", ("x",))])
            self.check(schema, (same,), [("y",)], ({}, {"x": values[0]}))
            both = when(("has", ("y",)), [when(("has", ("x",)), [same])])
            least = ({"x": values[0], "y": values[0]}, {"x": values[1], "y": values[0]})
            whole = when(("has", ("y",)), [when(("has", ("x",)), [("copy", ("y",), ("x",))])])
            self.check(schema, (whole,), [("y",)], least)
            self.check(schema, (both,), [("y",)], ({"y": values[0]}, {"x": values[1], "y": values[0]}))

    def test_messages_and_maps_that_are_set_and_cleared_as_a_whole(self):
        schema = Schema({"top": {"m": message("m"), "t": ("map", "flag")}, "m": {"a": NUMBER, "n": message("n")}, "n": {}})
        clear, empty = ("clear", ("m",)), ("set", ("m",), {})
        self.check(schema, (clear,), [], ({}, {"m": {}}))
        self.check(schema, (clear,), [("m", "a"), ("m", "n")], ({}, {"m": {}}))
        self.check(schema, (clear,), [("m",)], None)
        self.check(schema, (empty,), [], ({}, {"m": {}}))
        has = when(("has", ("m",)), [empty])
        self.check(schema, (has,), [], ({"m": {}}, {"m": {"a": 0}}))
        self.check(schema, (has,), [("m", "a")], ({"m": {}}, {"m": {"n": {}}}))
        self.check(schema, (has,), [("m", "a"), ("m", "n")], None)
        self.check(schema, (("clear", ("t",)),), [], ({}, {"t": {"a": False}}))
        self.check(schema, (("clear", ("t",)),), [("t", "a")], ({}, {"t": {"aa": False}}))
        self.check(schema, (("clear", ("t",)),), [("t",)], None)
        self.check(schema, (("set", ("t",), {"k": True}),), [("t",)], None)
        self.check(schema, (("set", ("t",), {"k": True}),), [("m",)], ({}, {"t": {"a": False}}))
        self.check(schema, (("set", ("m", "a"), 1), ("clear", ("m", "a"))), [("m", "a")], ({}, {"m": {}}))

    def test_the_other_field_of_a_choice(self):
        schema = Schema({"top": {"x": NUMBER, "y": NUMBER, "z": NUMBER}}, {"top": [("x", "y")]})
        self.check(schema, (("set", ("x",), 1),), [], ({}, {"x": 0}))
        self.check(schema, (("set", ("x",), 1),), [("x",)], ({}, {"y": 0}))
        self.check(schema, (("set", ("x",), 1),), [("x",), ("y",)], None)
        self.check(schema, (when(("has", ("x",)), [("set", ("y",), 1)]),), [("x",)], None)
        self.check(schema, (when(("has", ("x",)), [("copy", ("x",), ("y",))]),), [], ({"x": 0}, {"y": 0}))

    def test_a_name_of_a_map(self):
        schema = Schema({"top": {"t": ("map", "number"), "x": NUMBER}})
        self.check(schema, (("clear", ("t", "k")),), [], ({}, {"t": {"k": 0}}))
        self.check(schema, (("clear", ("t", "k")),), [("t", "a")], ({}, {"t": {"k": 0}}))
        self.check(schema, (("clear", ("t", "k")),), [("t", "k")], None)
        self.check(schema, (("copy", ("t", "a"), ("t", "b")),), [("t", "a")], ({}, {"t": {"b": 0}}))
        has = when(("has", ("t",)), [("set", ("x",), 0)], [("clear", ("x",))])
        self.check(schema, (has,), [], ({}, {"x": 0}))
        self.check(schema, (has, ("clear", ("t",))), [("x",)], ({"t": {"a": 0}}, {"t": {"a": 1}}))
        flags = Schema({"top": {"t": ("map", "flag"), "x": NUMBER}})
        self.check(flags, (has, ("clear", ("t",))), [("x",)], ({"t": {"a": False}}, {"t": {"a": True}}))
        self.check(flags, (has, ("clear", ("t",))), [("x",), ("t", "a")],
                   ({"t": {"a": False}}, {"t": {"a": False, "aa": False}}))

    def test_tests_on_what_was_written(self):
        schema = Schema({"top": {"x": NUMBER, "y": NUMBER, "z": NUMBER}})
        steps = (("copy", ("x",), ("y",)), when(("has", ("y",)), [("clear", ("z",))]))
        self.check(schema, steps, [("y",)], ({"x": 0}, {"x": 0, "z": 0}))
        self.check(schema, steps, [("y",), ("z",)], None)
        steps = (("set", ("y",), 1), when(("is", ("y",), 2), [("clear", ("z",))]))
        self.check(schema, steps, [("y",)], None)

    def test_against_all_small_pairs(self):
        muddled = 0
        for number in range(15000, 15240):
            world = World(number)
            program, mask = world.chance.program(4, 4), world.mask(3)
            if world.random.random() < 0.5:
                mask = mask | Mask([step[1] for step in program.steps if step[0] != "when"][:2])
            told = first_muddled(program, mask)
            muddled += told is not None
            pair = None if told is None else [flat.parts_of(paper) for paper in told]
            least = self.least_pair(world, program, mask)
            if pair is not None:
                self.assertTrue(told[0] < told[1])
                self.assertEqual(*[flat.done(world.schema, program.steps, document) for document in pair])
                self.assertEqual(*[guarded(mask, document) for document in pair])
            if pair is None or pair[0] in world.papers and pair[1] in world.papers:
                self.assertEqual(pair, least, number)
            elif least is not None:
                self.assertLess(pair_key(*pair), pair_key(*least))
        self.assertGreater(muddled, 50)
        self.assertLess(muddled, 190)

    def least_pair(self, world, program, mask):
        """Return the least pair of small papers that are muddled, by trying all of them."""
        groups = {}
        for document in world.papers:
            result = flat.done(world.schema, program.steps, document)
            key = (frozenset(result.items()), frozenset(guarded(mask, document).items()))
            groups.setdefault(key, []).append(document)
        pairs = [group[:2] for group in groups.values() if len(group) > 1]
        return min(pairs, key=lambda pair: pair_key(*pair)) if pairs else None

    def test_new_papers_each_time_and_arguments_by_name(self):
        schema = Schema({"top": {"x": NUMBER, "y": NUMBER}})
        program, mask = Program(schema, (("clear", ("x",)),)), Mask([("y",)])
        for paper in first_muddled(mask=mask, program=program):
            self.assertIs(type(paper), Paper)
            paper[("y",)] = 8
        self.check(schema, (("clear", ("x",)),), [("y",)], ({}, {"x": 0}))
        self.assertEqual(mask, Mask([("y",)]))

    def test_as_large_as_programs_may_be(self):
        schema = Schema({
            "top": {name: message("m") for name in "uvwxyz"}, "m": {name: NUMBER for name in "abcd"},
        }, {"top": [("u", "v", "w"), ("x", "y", "z")], "m": [("a", "b"), ("c", "d")]})
        copies = [("copy", (one, "a"), (two, "b")) for one, two in zip("uvwx", "vwxy")]
        sets = [("set", (name, "c"), 1) for name in "uvwxyz"] * 2
        pair = self.check_soon(first_muddled, Program(schema, copies + sets), Mask([(name,) for name in "vwyz"]))
        self.assertEqual([paper.content for paper in pair], [{}, {"u": {}}])
        whens = [when(("same", (one, "a"), (two, "a")), [("clear", (one, "b"))]) for one, two in zip("uvwx", "zyzu")]
        pair = self.check_soon(first_muddled, Program(schema, whens), Mask([(name, "b") for name in "uvwx"]))
        self.assertIsNone(pair)

    def test_maps_with_many_names(self):
        names = [one + two for one in "abc" for two in "abcdefgh"]
        schema = Schema({"top": {"x": NUMBER, **{name: ("map", "flag") for name in "tuvw"}}})
        sets = tuple([("set", (name,), {inner: True for inner in names}) for name in "tuvw"])
        need = [("set", ("x",), 1)] + [when(("has", (name,)), [], [("clear", ("x",))]) for name in "tuvw"]
        program = Program(schema, (*need, *sets))
        pair = self.check_soon(first_muddled, program, Mask([("x",)]))
        self.assertEqual([paper.content for paper in pair], [{}, {"t": {"a": False}}])
        pair = self.check_soon(first_muddled, program, Mask([("x",)] + [("t", name) for name in ("a", "aa", "ab")]))
        self.assertEqual([paper.content for paper in pair], [{}, {"t": {"aaa": False}}])
        told = self.check_soon(least_kept, program, [("t",), ("u",), ("v",), ("w",)])
        self.assertEqual(told, [])


class KeptTest(UndoTestCase):
    def check_kept(self, schema, steps, paths, told):
        program = Program(schema, steps)
        for turned in itertools.permutations(paths):
            given = list(turned)
            self.assertEqual(least_kept(program, given), told)
            self.assertEqual(given, list(turned))
            self.assertEqual(least_kept(program, turned), told)
        self.assertIs(type(least_kept(program, paths)), list)

    def test_the_example_of_the_document(self):
        schema = Schema({"top": {"x": NUMBER, "y": NUMBER}})
        self.check_kept(schema, (("clear", ("x",)),), [("y",), ("x",)], [(("x",),)])

    def test_none_and_none_that_will_do(self):
        schema = Schema({"top": {"x": NUMBER, "y": NUMBER}})
        self.check_kept(schema, (), [("x",), ("y",)], [()])
        self.check_kept(schema, (), [], [()])
        self.check_kept(schema, (("clear", ("x",)),), [("y",)], [])
        self.check_kept(schema, (("clear", ("x",)),), [], [])

    def test_either_of_two_and_both(self):
        schema = Schema({"top": {"x": NUMBER, "y": NUMBER, "m": message("m")}, "m": {"a": NUMBER, "b": NUMBER}})
        clears = (("clear", ("m", "a")), ("clear", ("m", "b")))
        self.check_kept(schema, clears, [("m",), ("m", "a"), ("m", "b")], [(("m",),), (("m", "a"), ("m", "b"))])
        exchange = (("copy", ("x",), ("y",)),)
        self.check_kept(schema, exchange, [("x",), ("y",)], [(("y",),)])
        same = (when(("same", ("x",), ("y",)), [("clear", ("x",)), ("clear", ("y",))]),)
        self.check_kept(schema, same, [("x",), ("y",)], [(("x",),), (("y",),)])
        both = (("clear", ("x",)), ("clear", ("y",)))
        self.check_kept(schema, both, [("x",), ("y",), ("m",)], [(("x",), ("y",))])

    def test_the_sequence_of_what_is_told(self):
        schema = Schema({"top": {"w": NUMBER, "x": NUMBER, "y": NUMBER, "z": NUMBER}})
        steps = tuple([when(("same", ("w",), (name,)), [("clear", (name,))]) for name in ("x", "y")])
        self.check_kept(schema, steps, [("w",), ("x",), ("y",), ("z",)], [(("x",), ("y",))])
        wide = (("clear", ("x",)), when(("same", ("y",), ("z",)), [("clear", ("y",)), ("clear", ("z",))]))
        self.check_kept(schema, wide, [("w",), ("x",), ("y",), ("z",)], [(("x",), ("y",)), (("x",), ("z",))])

    def test_just_those_do_that_hold_one(self):
        kinds = set()
        for number in range(16000, 16100):
            world = World(number)
            program = world.chance.program(4, 4)
            pool = sorted({*world.mask(4).paths, *[step[1] for step in program.steps if step[0] != "when"]})
            paths = world.random.sample(pool, min(4, len(pool)))
            told = least_kept(program, paths)
            kinds.add(tuple([len(row) for row in told]))
            for many in range(len(paths) + 1):
                for row in itertools.combinations(sorted(paths), many):
                    holds = any(set(part) <= set(row) for part in told)
                    self.assertIs(first_muddled(program, Mask(row)) is None, holds)
            self.assertEqual(told, sorted(told, key=lambda row: (len(row), row)))
            for first, second in itertools.permutations(told, 2):
                self.assertFalse(set(first) <= set(second))
        self.assertTrue({(), (0,), (1,), (2,)} <= kinds, kinds)

    def test_new_lists_and_arguments_by_name(self):
        schema = Schema({"top": {"x": NUMBER}})
        program = Program(schema, (("clear", ("x",)),))
        told = least_kept(paths=[("x",)], program=program)
        self.assertEqual(told, [(("x",),)])
        told.clear()
        self.assertEqual(least_kept(program=program, paths=(("x",),)), [(("x",),)])


class TogetherTest(UndoTestCase):
    def test_wider_masks_muddle_no_earlier_pair(self):
        for number in range(17000, 17150):
            world = World(number)
            program, mask = world.chance.program(4, 4), world.mask(2)
            pair = first_muddled(program, mask)
            wider = first_muddled(program, mask | world.mask(2))
            if pair is None:
                self.assertIsNone(wider)
            elif wider is not None:
                self.assertTrue(pair[0] < wider[0] or pair[0] == wider[0] and not wider[1] < pair[1])
            self.assertIsNone(first_muddled(program, world.tops))

    def test_what_is_not_muddled_is_told_apart(self):
        many = 0
        for number in range(18000, 18060):
            world = World(number)
            program = world.chance.program(3, 4)
            for kept in least_kept(program, [step[1] for step in program.steps if step[0] != "when"][:3])[:2]:
                many += 1
                seen = {}
                for document in world.papers[::max(1, len(world.papers) // 60)]:
                    paper = world.paper(document)
                    key = repr((program(paper).content, paper.only(Mask(kept)).content))
                    self.assertNotIn(key, seen)
                    seen[key] = paper
        self.assertGreater(many, 30)

    def test_a_large_schema(self):
        schema = Schema(*schema_example())
        tops = [(field,) for field in schema.fields(())]
        steps = (("set", ("x",), 1), ("clear", ("m", "n")), ("copy", ("t", "k"), ("w",)))
        self.check(schema, steps, tops, None)
        self.check(schema, steps, [top for top in tops if top != ("m",)], ({"m": {}}, {"m": {"n": {}}}))


if __name__ == "__main__":
    unittest.main()
