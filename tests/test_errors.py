"""Tests of the errors ([2] and the interface's heading for stage 1)."""

import unittest

from maskwrites import errors
from tests.anyvalues import any_values

ATTRIBUTES = {
    "BadSchema": "value", "BadPath": "value", "BadValue": "value", "BadPaper": "value", "BadStep": "value",
    "BadProgram": "value", "BadMask": "value", "BadText": "value", "BadCommand": "command", "Unset": "path",
    "Lost": "pair", "Refused": "number", "UnknownNumber": "number", "NothingToUndo": "many",
}


class ErrorsTest(unittest.TestCase):
    def test_mask_error_is_a_value_error(self):
        self.assertTrue(issubclass(errors.MaskError, ValueError))

    def test_each_is_a_direct_subclass_of_mask_error(self):
        for name in ATTRIBUTES:
            self.assertEqual(getattr(errors, name).__bases__, (errors.MaskError,), name)

    def test_none_is_another_one(self):
        for name in ATTRIBUTES:
            for other in ATTRIBUTES:
                same = issubclass(getattr(errors, name), getattr(errors, other))
                self.assertEqual(same, name == other, (name, other))

    def test_keeps_the_very_value_by_position(self):
        for name, attribute in ATTRIBUTES.items():
            for value in any_values():
                error = getattr(errors, name)(value)
                self.assertIs(getattr(error, attribute), value, name)

    def test_keeps_the_very_value_by_name(self):
        for name, attribute in ATTRIBUTES.items():
            for value in any_values():
                error = getattr(errors, name)(**{attribute: value})
                self.assertIs(getattr(error, attribute), value, name)

    def test_takes_one_argument_of_this_name_alone(self):
        for name, attribute in ATTRIBUTES.items():
            error = getattr(errors, name)
            with self.assertRaises(TypeError):
                error()
            with self.assertRaises(TypeError):
                error(1, 2)
            with self.assertRaises(TypeError):
                error(**{"other": 1})
            self.assertEqual(set(vars(error(1))), {attribute})

    def test_is_caught_by_each_of_its_names(self):
        for name in ATTRIBUTES:
            for caught in (getattr(errors, name), errors.MaskError, ValueError):
                with self.assertRaises(caught):
                    raise getattr(errors, name)(["x"])


if __name__ == "__main__":
    unittest.main()
