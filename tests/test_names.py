"""Tests of names, texts, numbers and flags ([3])."""

import itertools
import unittest

from maskwrites.names import (
    are_ascending, is_flag, is_name, is_number, is_text, least_name, least_number, least_text, name_after, sorted_names,
    sorted_paths, text_after, value_key,
)
from tests.anyvalues import any_values

LETTERS = "abcdefghijklmnopqrstuvwxyz"


class NamesTest(unittest.TestCase):
    def test_the_example_of_the_document(self):
        self.assertEqual([is_name("ab"), is_text(""), is_number(-1), is_flag(True)], [True, True, False, True])

    def test_lengths_of_names_and_texts(self):
        for many in range(20):
            self.assertIs(is_name("k" * many), 1 <= many <= 8, many)
            self.assertIs(is_text("k" * many), many <= 12, many)

    def test_each_letter_and_no_other_sign(self):
        for code in range(128):
            sign = chr(code)
            good = "a" <= sign <= "z"
            for text in (sign, "a" + sign, sign + "a", "a" + sign + "a"):
                self.assertIs(is_name(text), good, repr(text))
                self.assertIs(is_text(text), good, repr(text))

    def test_letters_beyond_a_to_z_are_none(self):
        for sign in ("\u00e4", "\u00df", "\u0430", "\u2170", "\u00aa"):
            self.assertIs(is_name(sign), False)
            self.assertIs(is_text(sign), False)

    def test_numbers(self):
        for number in (0, 1, 2, 10 ** 60 - 1, 10 ** 60, 10 ** 200):
            self.assertIs(is_number(number), True)
            self.assertIs(is_number(-number - 1), False)

    def test_bools_are_flags_and_no_numbers(self):
        for flag in (True, False):
            self.assertIs(is_flag(flag), True)
            self.assertIs(is_number(flag), False)
        for number in (0, 1):
            self.assertIs(is_flag(number), False)

    def test_any_value(self):
        for value in any_values():
            string = isinstance(value, str) and set(value) <= set(LETTERS)
            self.assertIs(is_name(value), string and 1 <= len(value) <= 8)
            self.assertIs(is_text(value), string and len(value) <= 12)
            self.assertIs(is_number(value), type(value) is int and value >= 0)
            self.assertIs(is_flag(value), type(value) is bool)

    def test_arguments_by_name(self):
        self.assertIs(is_name(value="x"), True)
        self.assertIs(is_text(value="x"), True)
        self.assertIs(is_number(value="x"), False)
        self.assertIs(is_flag(value="x"), False)
        self.assertEqual(value_key(value=3), value_key(3))


class ValueKeyTest(unittest.TestCase):
    def check_order(self, values):
        for order in (values, values[::-1], values[1::2] + values[::2]):
            self.assertEqual(sorted(order, key=value_key), values)
        for first, second in itertools.combinations(values, 2):
            self.assertTrue(value_key(first) < value_key(second))

    def test_texts_shorter_first(self):
        self.check_order(["", "a", "b", "z", "aa", "ab", "ba", "zz", "aaa", "abcdefghijkl", "zzzzzzzzzzzz"])

    def test_numbers_by_size(self):
        self.check_order([0, 1, 2, 9, 10, 11, 99, 100, 10 ** 59, 10 ** 60 - 1])

    def test_flags_false_ahead(self):
        self.check_order([False, True])

    def test_equal_values_have_equal_keys(self):
        for value in ("", "ab", 0, 10 ** 60 - 1, True, False):
            self.assertEqual(value_key(value), value_key(value))


class NextTest(unittest.TestCase):
    def test_texts_in_order(self):
        letters = "abcdefghijklmnopqrstuvwxyz"
        text = ""
        for expected in [""] + [*letters] + [one + two for one in letters for two in letters] + ["aaa", "aab"]:
            self.assertEqual(text, expected)
            text = text_after(text)
        self.assertEqual([text_after("azz"), text_after("zzz"), text_after("abz")], ["baa", "aaaa", "aca"])

    def test_names_in_order(self):
        told = ["a", "aa", "aaa", "aaaa", "aaaaa", "aaaaaa", "aaaaaaa", "aaaaaaaa", "aaaaaaab", "aaaaaaac"]
        self.assertEqual([name_after(name) for name in told[:-1]], told[1:])
        self.assertEqual(name_after("aaaaaaaz"), "aaaaaab")
        self.assertEqual(name_after("aaaaaazz"), "aaaaab")
        self.assertEqual(name_after("azzzzzzz"), "b")
        self.assertEqual(name_after("b"), "ba")
        for name in ("abc", "zzzzzzzy", "bz", "bzzzzzzz", "mzzzzzzy"):
            self.assertTrue(name < name_after(name))
            self.assertTrue(is_name(name_after(name)))

    def test_the_least_ones_that_are_left(self):
        self.assertEqual([least_text([]), least_text([""]), least_text(["", "b", "a"])], ["", "a", "c"])
        self.assertEqual([least_number([]), least_number([1]), least_number([1, 0, 3])], [0, 0, 2])
        self.assertEqual([least_name([]), least_name(["aa"]), least_name(["aa", "a"])], ["a", "a", "aaa"])

    def test_sorting(self):
        names = ["b", "aa", "a", "ab", "z", "ba"]
        self.assertEqual(sorted_names(names), sorted(names))
        paths = [row for many in (1, 2, 3) for row in itertools.product(("b", "aa", "a"), repeat=many)]
        self.assertEqual(sorted_paths(paths), sorted(paths))
        self.assertEqual(sorted_paths([]), [])
        self.assertIs(are_ascending(["a", "aa", "b"]), True)
        self.assertIs(are_ascending(["a", "a"]), False)
        self.assertIs(are_ascending([("a", "b"), ("a",)]), False)
        self.assertIs(are_ascending([]), True)


if __name__ == "__main__":
    unittest.main()
