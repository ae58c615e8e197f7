"""The refusals: what they are under, and their one field."""

import copy
import unittest

from grudgecote import errors

from tests.helper import Promises

WRITTEN = {
    "NotSame": (ValueError, None),
    "BadDeed": (ValueError, "place"),
    "BadText": (ValueError, "text"),
    "BadRow": (ValueError, "number"),
    "Own": (ValueError, "dove"),
    "NoDove": (LookupError, "dove"),
    "NoStanding": (LookupError, "number"),
    "NoDeed": (LookupError, "many"),
    "Asleep": (RuntimeError, "dove"),
    "Awake": (RuntimeError, "dove"),
    "Bare": (RuntimeError, "dove"),
    "Kept": (RuntimeError, "place"),
    "Barred": (RuntimeError, "what"),
    "NoPeace": (RuntimeError, None),
    "TooMany": (OverflowError, "grudges"),
}
WORTHS = [0, 3, -1, 10 ** 5000, "", "1:ab | -", ("line", 0, 1, 2), ("ring", [(0, 1), (1, 0)])]


class Errors(Promises, unittest.TestCase):

    def test_no_other_class_stands_there(self):
        classes = [name for name, thing in vars(errors).items() if isinstance(thing, type)]
        self.assertEqual(sorted(classes), sorted(WRITTEN))

    def test_each_is_straight_under_one_of_pythons_own(self):
        for name, (base, _) in WRITTEN.items():
            with self.subTest(name):
                self.assertEqual(getattr(errors, name).__bases__, (base,))

    def test_each_is_caught_as_itself_and_as_its_base_alone(self):
        bases = (ValueError, LookupError, RuntimeError, OverflowError)
        for name, (base, field) in WRITTEN.items():
            made = getattr(errors, name)(*([] if field is None else [1]))
            for other in bases:
                self.assertEqual(isinstance(made, other), other is base, (name, other))
            for other in WRITTEN:
                self.assertEqual(isinstance(made, getattr(errors, other)), other == name)

    def test_the_field_by_place_and_by_name(self):
        for name, (_, field) in WRITTEN.items():
            kind = getattr(errors, name)
            for worth in WORTHS if field is not None else []:
                with self.subTest(name):
                    for made in (kind(worth), kind(**{field: worth})):
                        self.assertEqual(vars(made), {field: worth})
                        self.assertIs(getattr(made, field), worth)

    def test_without_a_field_there_is_none(self):
        for name in ("NotSame", "NoPeace"):
            self.same(vars(getattr(errors, name)()), {})

    def test_a_field_is_wanted_and_one_alone(self):
        for name, (_, field) in WRITTEN.items():
            kind = getattr(errors, name)
            if field is not None:
                self.assertRaises(TypeError, kind)
                self.assertRaises(TypeError, kind, 1, 2)
            self.assertRaises(TypeError, kind, other=1)

    def test_each_can_be_written_out_and_copied(self):
        # Python writes out no number of 5001 figures.
        for name, (_, field) in WRITTEN.items():
            kind = getattr(errors, name)
            made = kind() if field is None else kind(**{field: 10 ** 5000})
            self.assertIsInstance(str(made), str)
            self.assertIsInstance(repr(made), str)
            self.assertEqual(vars(copy.copy(made)), vars(made))


if __name__ == "__main__":
    unittest.main()
