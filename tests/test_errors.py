"""The error classes: their attributes, and what they are derived from."""

import unittest

from weft import errors

ATTRIBUTES = {
    "BadDocument": ("line", "column", "what"),
    "NoPiece": ("name",),
    "Missing": ("line", "name"),
    "Ring": ("names",),
    "Taken": ("name",),
    "Unfit": ("at", "what"),
    "Apart": ("at", "other"),
    "MadeLine": ("at",),
    "Both": ("line",),
    "Clash": ("at",),
    "BadPatch": ("line", "what"),
    "NoVersion": ("version",),
    "BuildRefused": ("root", "at", "what", "other_root", "other"),
    "NoChange": ("number",),
    "Held": ("number", "by"),
    "TooLong": (),
    "BadPlace": (),
}


class ErrorClasses(unittest.TestCase):
    def test_each_is_derived_directly(self):
        self.assertEqual(errors.WeftError.__bases__, (ValueError,))
        for name in ATTRIBUTES:
            with self.subTest(name):
                self.assertEqual(getattr(errors, name).__bases__, (errors.WeftError,))

    def test_each_is_defined_there(self):
        for name in ATTRIBUTES:
            with self.subTest(name):
                self.assertEqual(getattr(errors, name).__module__, "weft.errors")

    def test_attributes_are_set_in_the_order_in_which_they_are_told(self):
        for name, attributes in ATTRIBUTES.items():
            values = [f"value {at}" for at in range(len(attributes))]
            made = getattr(errors, name)(*values)
            with self.subTest(name):
                self.assertEqual([getattr(made, attribute) for attribute in attributes], values)
                self.assertEqual(vars(made), dict(zip(attributes, values)))

    def test_can_be_caught_as_weft_error(self):
        with self.assertRaises(errors.WeftError):
            raise errors.Ring(("a", "b"))
