"""layoutsets/errors.py: each error class, with its field or without one."""

import unittest

from helper import anything, same_kind
from layoutsets import errors
from layoutsets.docs import text
from layoutsets.errors import LayoutError

FIELDS = {
    "InvalidText": "string", "InvalidSteps": "steps", "InvalidName": "name", "NotADocument": "thing",
    "NotALayoutSet": "thing", "InvalidLayout": "problem", "HasHoles": "unfilled", "OutOfRange": "count",
    "InvalidPlace": "value", "InvalidWidth": "value", "Unreadable": "at", "NoSuchName": "name",
    "Circular": "ring", "InvalidDeed": "place",
}
WITHOUT = ["InvalidForm", "TooLarge", "NotFound", "NothingToUndo"]


class ErrorsTest(unittest.TestCase):
    def test_the_base_class(self):
        self.assertEqual(LayoutError.__bases__, (ValueError,))
        self.assertEqual(LayoutError.__module__, "layoutsets.errors")
        self.assertEqual(vars(LayoutError()), {})

    def test_each_class_is_directly_below_it(self):
        for name in [*FIELDS, *WITHOUT]:
            kind = getattr(errors, name)
            self.assertEqual(kind.__bases__, (LayoutError,), name)
            self.assertEqual(kind.__module__, "layoutsets.errors", name)
            self.assertEqual(kind.__name__, name)

    def test_no_other_error_class(self):
        found = [name for name, value in vars(errors).items() if isinstance(value, type)]
        self.assertEqual(sorted(found), sorted([*FIELDS, *WITHOUT, "LayoutError"]))

    def test_a_field_is_anything_and_kept(self):
        for name, field in FIELDS.items():
            kind = getattr(errors, name)
            for one, other in zip(anything(), anything()):
                self.assertTrue(same_kind(getattr(kind(one), field), other), (name, other))
                self.assertTrue(same_kind(getattr(kind(**{field: one}), field), other), (name, other))
                self.assertTrue(same_kind(one, other), name)

    def test_a_field_may_be_left_out(self):
        for name, field in FIELDS.items():
            self.assertTrue(hasattr(getattr(errors, name)(), field), name)

    def test_a_class_has_no_second_field(self):
        for name, field in FIELDS.items():
            self.assertEqual(list(vars(getattr(errors, name)(3))), [field])
            with self.assertRaises(TypeError):
                getattr(errors, name)(1, 2)

    def test_those_without_a_field(self):
        for name in WITHOUT:
            self.assertEqual(vars(getattr(errors, name)()), {}, name)

    def test_they_are_raised_and_caught(self):
        for name, field in FIELDS.items():
            for kind in (getattr(errors, name), LayoutError, ValueError):
                with self.assertRaises(kind) as caught:
                    raise getattr(errors, name)((text("a"), 1))
                self.assertEqual(getattr(caught.exception, field), (text("a"), 1))
        for name in WITHOUT:
            with self.assertRaises(LayoutError):
                raise getattr(errors, name)()


if __name__ == "__main__":
    unittest.main()
