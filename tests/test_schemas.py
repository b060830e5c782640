"""Tests of making schemas, their properties and their equality ([2], [4])."""

import copy
import unittest

from maskwrites.errors import BadSchema, MaskError
from maskwrites.schemas import Schema
from tests.anyvalues import any_values, nested, schema_example

TEXT = ("text",)
NUMBER = ("number",)


def fields_of(names):
    return {name: NUMBER for name in names}


class SchemaTestCase(unittest.TestCase):
    def check_bad(self, messages, choices=None):
        with self.assertRaises(BadSchema) as caught:
            Schema(messages, choices)
        value = caught.exception.value
        self.assertIs(type(value), tuple)
        self.assertEqual(len(value), 2)
        self.assertIs(value[0], messages)
        self.assertIs(value[1], choices)

    def check_good(self, messages, choices=None):
        schema = Schema(messages, choices)
        self.assertEqual(schema.messages, messages)
        return schema


class MakingTest(SchemaTestCase):
    def test_the_example_of_the_document(self):
        top = {"x": NUMBER, "y": NUMBER, "m": ("message", "m"), "t": ("map", "text")}
        schema = Schema({"top": top, "m": {"a": NUMBER, "b": ("flag",)}}, {"top": [("x", "y")]})
        self.assertEqual(
            [schema.kind_at(("m", "b")), schema.mates(("x",)), schema.fields(())],
            [("flag",), [("y",)], ["m", "t", "x", "y"]],
        )
        self.assertEqual(
            [schema.is_path(("t", "k")), schema.is_value(("t",), {}), schema.is_value(("m",), {})],
            [True, False, True],
        )

    def test_least_schemas(self):
        self.check_good({"top": {}})
        self.check_good({"top": {"m": ("message", "m")}, "m": {}})
        self.check_good({"top": {}}, {})
        self.check_good({"top": {}}, {"top": []})

    def test_arguments_by_name(self):
        messages = {"top": fields_of("xy")}
        choices = {"top": [("x", "y")]}
        self.assertEqual(Schema(choices=choices, messages=messages), Schema(messages, choices))
        self.assertEqual(Schema(messages=messages), Schema(messages))

    def test_bad_schema_by_name_keeps_both(self):
        messages = {"m": {}}
        with self.assertRaises(BadSchema) as caught:
            Schema(messages=messages)
        self.assertIs(caught.exception.value[0], messages)
        self.assertIsNone(caught.exception.value[1])
        self.assertIsInstance(caught.exception, MaskError)

    def test_any_value_as_messages(self):
        good = [{"top": {}}, {"top": {"x": TEXT}}]
        for value in any_values():
            if value in good:
                self.check_good(value)
            else:
                self.check_bad(value)
                self.check_bad(value, {"top": []})

    def test_any_value_as_choices(self):
        for value in any_values():
            if value is None or value in ({}, {"top": []}):
                self.check_good({"top": fields_of("xy")}, value)
            else:
                self.check_bad({"top": fields_of("xy")}, value)

    def test_any_value_as_a_message(self):
        for value in any_values():
            if value == {}:
                self.check_good({"top": {}, "m": value})
            else:
                self.check_bad({"top": {}, "m": value})
                self.check_bad({"top": value})

    def test_any_value_as_a_kind(self):
        kinds = [("text",), ("number",), ("flag",), ("map", "text"), ("message", "m")]
        for value in any_values():
            for messages in ({"top": {"x": value}, "m": {}}, {"top": {}, "m": {}, "n": {"x": value}}):
                if value in kinds:
                    self.check_good(messages)
                else:
                    self.check_bad(messages)

    def test_any_value_in_choices(self):
        for value in any_values():
            if value == ("x", "y"):
                self.check_good({"top": fields_of("xy")}, {"top": [value]})
            else:
                self.check_bad({"top": fields_of("xy")}, {"top": [value]})
            if value in ([], (), [("x", "y")]):
                self.check_good({"top": fields_of("xy")}, {"top": value})
            else:
                self.check_bad({"top": fields_of("xy")}, {"top": value})

    def test_any_value_in_a_choice(self):
        for value in any_values():
            choice = ("x", value)
            if value == "y":
                self.check_good({"top": fields_of("xy")}, {"top": [choice]})
            else:
                self.check_bad({"top": fields_of("xy")}, {"top": [choice]})

    def test_any_key(self):
        for key in (0, True, None, "", "A", "abcdefghi", "a b", (), ("top",), ("x", 1), ((("x",),),)):
            self.check_bad({"top": {}, key: {}})
            self.check_bad({"top": {key: TEXT}})
            self.check_bad({"top": {}}, {key: []})

    def test_top_must_be_there(self):
        self.check_bad({})
        self.check_bad({"m": {}})
        self.check_bad({"Top": {}})

    def test_messages_that_kinds_name_must_be_there(self):
        self.check_bad({"top": {"a": ("message", "m")}})
        self.check_bad({"top": {}, "m": {"a": ("message", "n")}})
        self.check_bad({"top": {"a": ("message", "m")}, "n": {}})

    def test_no_message_within_itself(self):
        self.check_bad({"top": {"a": ("message", "top")}})
        self.check_bad({"top": {"a": ("message", "m")}, "m": {"a": ("message", "m")}})
        self.check_bad({"top": {"a": ("message", "m")}, "m": {"b": ("message", "top")}})
        self.check_bad({"top": {"a": ("message", "m")}, "m": {"b": ("message", "n")}, "n": {"c": ("message", "m")}})

    def test_no_message_within_itself_though_not_reached(self):
        self.check_bad({"top": {}, "m": {"a": ("message", "m")}})
        self.check_bad({"top": {"x": TEXT}, "m": {"a": ("message", "n")}, "n": {"a": ("message", "m")}})
        ring = {name: {"a": ("message", then)} for name, then in zip("abcde", "bcdea")}
        self.check_bad({"top": {}, **ring})

    def test_top_may_stand_in_a_message_that_is_not_reached(self):
        self.check_good({"top": {"x": TEXT}, "m": {"t": ("message", "top")}})

    def test_a_message_may_stand_in_two_fields(self):
        self.check_good({"top": {"a": ("message", "m"), "b": ("message", "m")}, "m": {"x": TEXT}})
        self.check_good({
            "top": {"a": ("message", "m"), "b": ("message", "n")}, "m": {"x": ("message", "n")}, "n": {"y": TEXT},
        })

    def test_choices(self):
        top = {"top": fields_of("abcdef")}
        self.check_good(top, {"top": [("a", "b")]})
        self.check_good(top, {"top": [("a", "b", "c", "d", "e", "f")]})
        self.check_good(top, {"top": [("a", "f"), ("b", "e"), ("c", "d")]})
        self.check_good({"top": {"a": ("message", "m"), "b": ("map", "text")}, "m": {}}, {"top": [("a", "b")]})
        self.check_good({"top": {}, "m": fields_of("xy")}, {"m": [("x", "y")], "top": []})

    def test_bad_choices(self):
        top = {"top": fields_of("abcdef"), "m": fields_of("xy")}
        wrong = [
            ("a",), (), ("a", "a"), ("b", "a"), ("a", "c", "b"), ("a", "b", "b"), ("a", "x"), ("x", "y"), ("a", "top"),
            ["a", "b"], "ab", {"a": 1, "b": 2}, ("a", ("b",)), ("a", "B"), ("a", 1), (["a"], "b"), None,
        ]
        for choice in wrong:
            self.check_bad(top, {"top": [choice]})
            self.check_bad(top, {"top": [("c", "d"), choice]})
        for choices in ([("a", "b"), ("a", "b")], [("a", "b"), ("b", "c")], [("a", "b", "c"), ("c", "d")]):
            self.check_bad(top, {"top": choices})
        self.check_bad(top, {"n": []})
        self.check_bad(top, {"n": [("x", "y")]})
        self.check_bad(top, {"m": [("a", "b")]})
        self.check_bad(top, {"top": ("a", "b")})
        self.check_bad(top, {"top": None})
        self.check_bad(top, [("top", [("a", "b")])])

    def test_deep_values(self):
        deep = nested(lambda value: {"top": value})
        self.check_bad(deep)
        self.check_bad({"top": {"x": ("message", nested(lambda value: [value]))}})
        self.check_bad({"top": fields_of("xy")}, {"top": [("x", nested(lambda value: (value,)))]})
        self.check_bad({"top": fields_of("xy")}, {"top": nested(lambda value: [value])})

    def test_choices_may_be_told_as_a_tuple(self):
        first = Schema({"top": fields_of("xy")}, {"top": (("x", "y"),)})
        self.assertEqual(first.choices, {"top": [("x", "y")]})


class PropertiesTest(SchemaTestCase):
    def test_what_they_tell(self):
        messages, choices = schema_example()
        schema = Schema(messages, choices)
        self.assertEqual(schema.messages, messages)
        self.assertEqual(schema.choices, {"top": [("m", "t", "w"), ("x", "y")], "m": [("e", "g", "n")]})

    def test_no_choices(self):
        for choices in (None, {}, {"top": []}, {"top": [], "m": []}):
            self.assertEqual(Schema({"top": {}, "m": {}}, choices).choices, {})

    def test_lists_and_kinds(self):
        messages, choices = schema_example()
        schema = Schema(messages, choices)
        self.assertIs(type(schema.messages), dict)
        self.assertIs(type(schema.choices), dict)
        for fields in schema.messages.values():
            self.assertIs(type(fields), dict)
            for kind in fields.values():
                self.assertIs(type(kind), tuple)
        for rows in schema.choices.values():
            self.assertIs(type(rows), list)
            self.assertEqual(rows, sorted(rows))
            for choice in rows:
                self.assertIs(type(choice), tuple)

    def test_new_each_time(self):
        schema = Schema(*schema_example())
        for once, again in ((schema.messages, schema.messages), (schema.choices, schema.choices)):
            self.assertIsNot(once, again)
            self.assertEqual(once, again)
            for name in once:
                self.assertIsNot(once[name], again[name])

    def test_changing_what_was_returned(self):
        messages, choices = schema_example()
        schema = Schema(messages, choices)
        told = (schema.messages, schema.choices)
        schema.messages["top"]["new"] = TEXT
        schema.messages["m"].clear()
        schema.messages.clear()
        schema.choices["top"].append(("f", "w"))
        schema.choices["m"].clear()
        schema.choices.clear()
        self.assertEqual((schema.messages, schema.choices), told)
        self.assertEqual(schema, Schema(*schema_example()))
        self.assertFalse(schema.is_path(("new",)))
        self.assertTrue(schema.is_path(("m", "a")))

    def test_changing_what_was_handed_in(self):
        messages, choices = schema_example()
        schema = Schema(messages, choices)
        told = (schema.messages, schema.choices)
        messages["top"]["new"] = TEXT
        del messages["m"]["a"]
        del messages["empty"]
        choices["top"].pop()
        choices["m"].append(("a", "b"))
        choices["inner"].append(("d", "t"))
        del choices["m"]
        self.assertEqual((schema.messages, schema.choices), told)
        self.assertTrue(schema.is_path(("m", "a")))
        self.assertFalse(schema.is_path(("new",)))
        self.assertEqual(schema.mates(("m", "a")), [])
        self.assertEqual(schema.mates(("w",)), [("m",), ("t",)])

    def test_what_was_handed_in_stays_as_it_is(self):
        messages, choices = schema_example()
        schema = Schema(messages, choices)
        schema.is_value(("m",), {"a": 1})
        schema.fields(())
        self.assertEqual((messages, choices), schema_example())
        self.assertEqual([list(fields) for fields in messages.values()],
                         [list(fields) for fields in schema_example()[0].values()])
        wrong = {"top": {"x": TEXT}, "m": {"x": 1}}
        kept = copy.deepcopy(wrong)
        self.check_bad(wrong, {"top": []})
        self.assertEqual(wrong, kept)

    def test_the_sequence_of_keys_changes_nothing(self):
        messages, choices = schema_example()
        turned = {name: dict(reversed(list(messages[name].items()))) for name in reversed(list(messages))}
        chosen = {name: choices[name][::-1] for name in reversed(list(choices))}
        first = Schema(messages, choices)
        second = Schema(turned, chosen)
        self.assertEqual(first, second)
        self.assertEqual(repr(first.messages), repr(second.messages))
        self.assertEqual(repr(first.choices), repr(second.choices))
        self.assertEqual(first.mates(("t",)), second.mates(("t",)))


class EqualityTest(unittest.TestCase):
    def check_same(self, first, second, same):
        self.assertIs(first == second, same)
        self.assertIs(second == first, same)
        self.assertIs(first != second, not same)

    def test_same_messages_and_choices(self):
        self.check_same(Schema(*schema_example()), Schema(*schema_example()), True)
        schema = Schema({"top": {}})
        self.check_same(schema, schema, True)

    def test_choices_in_any_sequence(self):
        top = {"top": fields_of("abcd")}
        first = Schema(top, {"top": [("a", "b"), ("c", "d")]})
        self.check_same(first, Schema(top, {"top": [("c", "d"), ("a", "b")]}), True)

    def test_no_choices_however_told(self):
        messages = {"top": fields_of("xy"), "m": {}}
        told = [None, {}, {"top": []}, {"m": []}, {"m": [], "top": []}, {"top": ()}]
        for first in told:
            for second in told:
                self.check_same(Schema(messages, first), Schema(messages, second), True)
        chosen = Schema(messages, {"top": [("x", "y")]})
        self.check_same(chosen, Schema(messages, {"top": [("x", "y")], "m": []}), True)
        for first in told:
            self.check_same(chosen, Schema(messages, first), False)

    def test_unlike_ones(self):
        schemas = [
            Schema({"top": {}}),
            Schema({"top": {}, "m": {}}),
            Schema({"top": {}, "n": {}}),
            Schema({"top": {"x": TEXT}}),
            Schema({"top": {"x": NUMBER}}),
            Schema({"top": {"y": TEXT}}),
            Schema({"top": {"x": ("map", "text")}}),
            Schema({"top": {"x": ("map", "number")}}),
            Schema({"top": {"x": ("message", "m")}, "m": {}}),
            Schema({"top": fields_of("abcd")}),
            Schema({"top": fields_of("abcd")}, {"top": [("a", "b")]}),
            Schema({"top": fields_of("abcd")}, {"top": [("a", "c")]}),
            Schema({"top": fields_of("abcd")}, {"top": [("a", "b"), ("c", "d")]}),
            Schema({"top": fields_of("abcd")}, {"top": [("a", "b", "c", "d")]}),
        ]
        for at, first in enumerate(schemas):
            for place, second in enumerate(schemas):
                self.check_same(first, second, at == place)

    def test_any_value(self):
        schema = Schema(*schema_example())
        for value in any_values() + [schema.messages, (schema.messages, schema.choices), Schema, object()]:
            self.check_same(schema, value, False)


if __name__ == "__main__":
    unittest.main()
