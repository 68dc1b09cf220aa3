"""Errors: point [4] and the interface under steadycover/errors.py."""

import unittest

from steadycover import errors
from steadycover.errors import CoverError

ATTRIBUTES = {
    "InvalidCube": ("at",),
    "InvalidPoint": ("at",),
    "InvalidTable": ("why",),
    "InvalidChange": ("at",),
    "InvalidCover": ("at",),
    "InvalidOrder": ("at",),
    "InvalidWord": (),
    "InvalidTree": ("path",),
    "InvalidPlay": ("path",),
    "InvalidText": ("line",),
    "InvalidName": ("name",),
    "LimitExceeded": ("limit",),
    "UnknownName": ("name",),
    "NothingLeft": ("word",),
}

VALUES = (0, -1, 14, "kind", "", (), (0, 1), None, ["a"])


class ErrorsTest(unittest.TestCase):
    def test_there_are_fourteen(self):
        own = [
            name for name, thing in vars(errors).items()
            if isinstance(thing, type) and issubclass(thing, Exception) and name != "CoverError"
        ]
        self.assertEqual(sorted(own), sorted(ATTRIBUTES))
        self.assertEqual(len(own), 14)

    def test_each_is_defined_in_this_file(self):
        for name in ["CoverError", *ATTRIBUTES]:
            self.assertEqual(getattr(errors, name).__module__, "steadycover.errors", name)

    def test_the_base_class(self):
        self.assertEqual(CoverError.__bases__, (Exception,))

    def test_each_stands_directly_below_cover_error(self):
        for name in ATTRIBUTES:
            self.assertEqual(getattr(errors, name).__bases__, (CoverError,), name)

    def test_attributes_come_from_the_arguments_in_order(self):
        for name, attributes in ATTRIBUTES.items():
            for value in VALUES:
                made = getattr(errors, name)(*[value for _ in attributes])
                self.assertEqual(vars(made), {attribute: value for attribute in attributes}, name)

    def test_arguments_by_name(self):
        for name, attributes in ATTRIBUTES.items():
            made = getattr(errors, name)(**{attribute: 7 for attribute in attributes})
            self.assertEqual(vars(made), {attribute: 7 for attribute in attributes}, name)

    def test_each_is_a_cover_error_and_none_of_the_others(self):
        for name, attributes in ATTRIBUTES.items():
            made = getattr(errors, name)(*[3 for _ in attributes])
            self.assertIsInstance(made, CoverError)
            for other in ATTRIBUTES:
                self.assertEqual(isinstance(made, getattr(errors, other)), other == name, (name, other))

    def test_each_can_be_raised_and_caught(self):
        for name, attributes in ATTRIBUTES.items():
            with self.assertRaises(CoverError) as caught:
                raise getattr(errors, name)(*[3 for _ in attributes])
            self.assertIs(type(caught.exception), getattr(errors, name))


if __name__ == "__main__":
    unittest.main()
