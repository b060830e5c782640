"""Tests of names, texts, numbers and flags ([3])."""

import itertools
import unittest

from maskwrites.names import is_flag, is_name, is_number, is_text, value_key
from tests.anyvalues import any_values

LETTERS = "abcdefghijklmnopqrstuvwxyz"


class NamesTest(unittest.TestCase):
    def test_the_example_of_the_document(self):
        self.assertEqual([is_name("ab"), is_text(""), is_number(-1), is_flag(True)], [True, True, False, True])

    def test_lengths_of_names_and_texts(self):
        for many in range(20):
            self.assertIs(is_name("k" * many), 1 <= many <= 8, many)
            self.assertIs(is_text("k" * many), many <= 12, many)

    def test_each_letter_and_no_other_sign(self):
        for code in range(128):
            sign = chr(code)
            good = "a" <= sign <= "z"
            for text in (sign, "a" + sign, sign + "a", "a" + sign + "a"):
                self.assertIs(is_name(text), good, repr(text))
                self.assertIs(is_text(text), good, repr(text))

    def test_letters_beyond_a_to_z_are_none(self):
        for sign in ("\u00e4", "\u00df", "\u0430", "\u2170", "\u00aa"):
            self.assertIs(is_name(sign), False)
            self.assertIs(is_text(sign), False)

    def test_numbers(self):
        for number in (0, 1, 2, 10 ** 60 - 1, 10 ** 60, 10 ** 200):
            self.assertIs(is_number(number), True)
            self.assertIs(is_number(-number - 1), False)

    def test_bools_are_flags_and_no_numbers(self):
        for flag in (True, False):
            self.assertIs(is_flag(flag), True)
            self.assertIs(is_number(flag), False)
        for number in (0, 1):
            self.assertIs(is_flag(number), False)

    def test_any_value(self):
        for value in any_values():
            string = isinstance(value, str) and set(value) <= set(LETTERS)
            self.assertIs(is_name(value), string and 1 <= len(value) <= 8)
            self.assertIs(is_text(value), string and len(value) <= 12)
            self.assertIs(is_number(value), type(value) is int and value >= 0)
            self.assertIs(is_flag(value), type(value) is bool)

    def test_arguments_by_name(self):
        self.assertIs(is_name(value="x"), True)
        self.assertIs(is_text(value="x"), True)
        self.assertIs(is_number(value="x"), False)
        self.assertIs(is_flag(value="x"), False)
        self.assertEqual(value_key(value=3), value_key(3))


class ValueKeyTest(unittest.TestCase):
    def check_order(self, values):
        for order in (values, values[::-1], values[1::2] + values[::2]):
            self.assertEqual(sorted(order, key=value_key), values)
        for first, second in itertools.combinations(values, 2):
            self.assertTrue(value_key(first) < value_key(second))

    def test_texts_shorter_first(self):
        self.check_order(["", "a", "b", "z", "aa", "ab", "ba", "zz", "aaa", "abcdefghijkl", "zzzzzzzzzzzz"])

    def test_numbers_by_size(self):
        self.check_order([0, 1, 2, 9, 10, 11, 99, 100, 10 ** 59, 10 ** 60 - 1])

    def test_flags_false_ahead(self):
        self.check_order([False, True])

    def test_equal_values_have_equal_keys(self):
        for value in ("", "ab", 0, 10 ** 60 - 1, True, False):
            self.assertEqual(value_key(value), value_key(value))


if __name__ == "__main__":
    unittest.main()
