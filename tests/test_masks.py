"""Tests of masks ([2], [8])."""

import itertools
import unittest

from maskwrites.errors import BadMask
from maskwrites.masks import Mask
from tests.anyvalues import any_values

NAMES = ("a", "aa", "b")
PATHS = [row for many in (1, 2, 3) for row in itertools.product(NAMES, repeat=many)]


def is_row_of_names(value):
    names = isinstance(value, tuple) and value and all(isinstance(name, str) for name in value)
    return bool(names) and all(1 <= len(name) <= 8 and set(name) <= set("abcdefghijklmnopqrstuvwxyz") for name in value)


def some_masks():
    """Return masks of all shapes over few names."""
    short = [("a",), ("b",), ("a", "a"), ("a", "b"), ("b", "a"), ("a", "a", "b"), ("aa",), ("aa", "a")]
    rows = [row for many in range(4) for row in itertools.combinations(short, many)]
    return [Mask(row) for row in rows]


class MakingTest(unittest.TestCase):
    def test_the_example_of_the_document(self):
        mask = Mask([("m",), ("m", "a"), ("x",)])
        self.assertEqual([mask.paths, ("m", "b") in mask, len(mask)], [[("m",), ("x",)], True, 2])
        self.assertEqual(
            [(Mask([("m", "a")]) & mask).paths, Mask([("x",)]).within(mask)], [[("m", "a")], True],
        )

    def test_paths_that_begin_with_another_one_are_left_out(self):
        told = {
            (): [],
            (("x",),): [("x",)],
            (("x",), ("x",)): [("x",)],
            (("x", "a"), ("x",)): [("x",)],
            (("x", "a", "b"), ("x", "a"), ("y",)): [("x", "a"), ("y",)],
            (("x", "a"), ("x", "b")): [("x", "a"), ("x", "b")],
            (("xa",), ("x",)): [("x",), ("xa",)],
            (("x", "b", "c"), ("x", "b", "d"), ("x",)): [("x",)],
            (("b",), ("aa",), ("a", "z")): [("a", "z"), ("aa",), ("b",)],
        }
        for paths, kept in told.items():
            for row in itertools.permutations(paths):
                self.assertEqual(Mask(row).paths, kept)
                self.assertEqual(Mask(list(row)).paths, kept)

    def test_all_pairs_of_paths(self):
        for first, second in itertools.product(PATHS, repeat=2):
            kept = {path for path in (first, second) if not any(
                path != other and path[:len(other)] == other for other in (first, second)
            )}
            mask = Mask([first, second])
            self.assertEqual(mask.paths, sorted(kept))
            self.assertEqual(len(mask), len(kept))

    def test_no_paths(self):
        for mask in (Mask(), Mask([]), Mask(()), Mask(paths=[])):
            self.assertEqual(mask.paths, [])
            self.assertEqual(len(mask), 0)
            self.assertIs(("x",) in mask, False)

    def test_any_value_as_a_path(self):
        for value in any_values():
            if is_row_of_names(value):
                self.assertEqual(Mask([value]).paths, [value])
            else:
                for paths in ([value], [("x",), value], (value, ("x",)), [value, value], [value, 3]):
                    with self.assertRaises(BadMask) as caught:
                        Mask(paths)
                    self.assertIs(caught.exception.value, value)

    def test_the_first_one_that_is_none(self):
        wrong = [["x"], "x", ("x", 1)]
        with self.assertRaises(BadMask) as caught:
            Mask([("x",)] + wrong)
        self.assertIs(caught.exception.value, wrong[0])

    def test_names_as_long_as_they_may_be(self):
        mask = Mask([("abcdefgh",), ("z",) * 40])
        self.assertEqual(mask.paths, [("abcdefgh",), ("z",) * 40])
        self.assertIs(("abcdefgh", "a") in mask, True)
        self.assertIs(("abcdefgh", "abcdefghi") in mask, False)
        for wrong in (("abcdefghi",), ("x", "abcdefghi"), ("x", ""), ("",), ()):
            with self.assertRaises(BadMask) as caught:
                Mask([wrong])
            self.assertIs(caught.exception.value, wrong)
            self.assertIs(wrong in Mask([("x",)]), False)

    def test_what_is_handed_in_stays_and_is_copied(self):
        paths = [("y",), ("x", "a"), ("x",), ("y",)]
        mask = Mask(paths)
        self.assertEqual(paths, [("y",), ("x", "a"), ("x",), ("y",)])
        paths.clear()
        self.assertEqual(mask.paths, [("x",), ("y",)])
        self.assertIs(("y",) in mask, True)

    def test_what_is_told_is_new(self):
        mask = Mask([("x",)])
        mask.paths.append(("y",))
        mask.paths.clear()
        self.assertEqual(mask.paths, [("x",)])
        self.assertIsNot(mask.paths, mask.paths)
        self.assertIs(type(mask.paths), list)
        self.assertIs(("y",) in mask, False)

    def test_arguments_by_name(self):
        self.assertEqual(Mask(paths=(("x",),)).paths, [("x",)])
        self.assertIs(Mask().within(other=Mask()), True)


class CoverTest(unittest.TestCase):
    def test_begins_with_one_of_its_paths(self):
        for mask in some_masks():
            for path in PATHS:
                begins = any(path[:len(above)] == above for above in mask.paths)
                self.assertIs(path in mask, begins)

    def test_any_value(self):
        mask = Mask([("x",), ("text",), ("top",)])
        for value in any_values():
            begins = is_row_of_names(value) and value[0] in ("x", "text", "top")
            self.assertIs(value in mask, begins)
            self.assertIs(value in Mask(), False)

    def test_the_empty_path(self):
        self.assertIs(() in Mask([("x",)]), False)
        self.assertIs(("",) in Mask([("x",)]), False)


class TogetherTest(unittest.TestCase):
    def check_covers(self, mask, covered):
        for path in PATHS:
            self.assertIs(path in mask, covered(path))
        for path in mask.paths:
            self.assertFalse(any(path != other and path[:len(other)] == other for other in mask.paths))
        self.assertEqual(mask.paths, sorted(mask.paths))

    def test_both_and_one(self):
        masks = some_masks()[:60]
        for first, second in itertools.product(masks, repeat=2):
            told = (first.paths, second.paths)
            self.check_covers(first & second, lambda path: path in first and path in second)
            self.check_covers(first | second, lambda path: path in first or path in second)
            self.assertEqual((first.paths, second.paths), told)

    def test_in_any_sequence(self):
        masks = some_masks()
        for first, second in itertools.product(masks, repeat=2):
            self.assertEqual(first & second, second & first)
            self.assertEqual(first | second, second | first)
            self.assertEqual(first & (first | second), first)
            self.assertEqual(first | (first & second), first)

    def test_three_masks(self):
        masks = some_masks()[::6]
        for one, two, three in itertools.product(masks, repeat=3):
            self.assertEqual((one & two) & three, one & (two & three))
            self.assertEqual((one | two) | three, one | (two | three))
            self.assertEqual(one & (two | three), (one & two) | (one & three))

    def test_within(self):
        masks = some_masks()
        for first, second in itertools.product(masks, repeat=2):
            inside = all(path in second for path in first.paths)
            self.assertIs(first.within(second), inside)
            self.assertIs((first | second) == second, inside)
            self.assertIs((first & second) == first, inside)

    def test_within_by_hand(self):
        self.assertIs(Mask().within(Mask()), True)
        self.assertIs(Mask([("x",)]).within(Mask()), False)
        self.assertIs(Mask([("x", "a")]).within(Mask([("x",)])), True)
        self.assertIs(Mask([("x",)]).within(Mask([("x", "a")])), False)
        self.assertIs(Mask([("x",)]).within(Mask([("xa",)])), False)


class EqualityTest(unittest.TestCase):
    def test_the_same_paths(self):
        masks = some_masks()
        for first, second in itertools.product(masks, repeat=2):
            self.assertIs(first == second, first.paths == second.paths)
            self.assertIs(first != second, first.paths != second.paths)
        self.assertEqual(Mask([("x",), ("x", "a")]), Mask([("x",)]))

    def test_any_value(self):
        mask = Mask([("x",)])
        for value in any_values() + [mask.paths, Mask, object()]:
            self.assertIs(mask == value, False)
            self.assertIs(value == mask, False)
            self.assertIs(mask != value, True)


if __name__ == "__main__":
    unittest.main()
