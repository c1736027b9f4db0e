"""[2]: the errors and their attributes."""

import unittest

from patchrooms import errors

ATTRIBUTES = {
    "NotOrder": ("rule",), "NotLeading": ("place",), "NotPatch": ("rule", "place"), "NotMap": ("place",),
    "NotFit": (), "NotExact": (), "NotHole": (), "NotFiner": (), "NotRound": (), "NotCover": ("place",),
    "NotRow": ("place",), "NotWalk": ("place",), "NotStill": (), "NotTied": (), "NotWeb": (),
    "NotText": ("place",), "NotDeed": ("place",), "NothingBack": (), "TooMany": ("limit",)}


class ErrorsTest(unittest.TestCase):

    def test_patch_error_is_a_value_error(self):
        self.assertEqual(errors.PatchError.__bases__, (ValueError,))

    def test_each_is_a_direct_subclass_of_patch_error_alone(self):
        self.assertEqual(len(ATTRIBUTES), 19)
        for name in ATTRIBUTES:
            self.assertEqual(getattr(errors, name).__bases__, (errors.PatchError,), name)
            self.assertEqual(getattr(errors, name).__module__, "patchrooms.errors")

    def test_there_are_no_others(self):
        found = [name for name, value in vars(errors).items() if isinstance(value, type)]
        self.assertEqual(sorted(found), sorted(list(ATTRIBUTES) + ["PatchError"]))

    def test_attributes_are_set(self):
        for name, attributes in ATTRIBUTES.items():
            values = ("ways", 7)[:2] if len(attributes) == 2 else (7,) * len(attributes)
            error = getattr(errors, name)(*values)
            for attribute, value in zip(attributes, values):
                self.assertEqual(getattr(error, attribute), value, name)
            for other in {"rule", "place", "limit"} - set(attributes):
                self.assertFalse(hasattr(error, other), name)


if __name__ == "__main__":
    unittest.main()
