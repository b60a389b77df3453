"""Point [3]: the refusals."""

import copy
import pickle
import unittest

from trudge import errors
from trudge.errors import TrudgeError

FIELDS = {
    "BadLand": "at", "BadTrip": "at", "BadPlan": "at",
    "Taken": "label", "NoWay": "label", "TooMany": "most",
}
PLAIN = ("BadLabel", "BadWay", "BadStore", "BadGoal", "NoRow", "NoText", "NoLand")
NAMES = tuple(FIELDS) + PLAIN


class Unshown:
    def __repr__(self):
        raise RuntimeError("not to be shown")

    __str__ = __repr__
    __eq__ = None


class RefusalsTest(unittest.TestCase):
    def test_base(self):
        self.assertEqual(TrudgeError.__bases__, (ValueError,))

    def test_thirteen_straight_under_the_base(self):
        self.assertEqual(len(NAMES), 13)
        for name in NAMES:
            with self.subTest(name):
                self.assertEqual(getattr(errors, name).__bases__, (TrudgeError,))

    def test_each_is_a_class_of_its_own(self):
        self.assertEqual({getattr(errors, name).__name__ for name in NAMES}, set(NAMES))
        for name in NAMES:
            for other in NAMES:
                if name != other:
                    with self.subTest((name, other)):
                        self.assertFalse(issubclass(getattr(errors, name), getattr(errors, other)))

    def test_fields_are_the_very_things(self):
        things = (0, 7, -1, 10 ** 60, None, True, "text", [1], (), {}, Unshown(), ValueError("x"))
        for name, field in FIELDS.items():
            for thing in things:
                refusal = getattr(errors, name)(thing)
                self.assertIs(getattr(refusal, field), thing)
                self.assertEqual(list(vars(refusal)), [field])

    def test_fields_are_what_they_are_made_with_alone(self):
        for name in FIELDS:
            with self.subTest(name):
                self.assertRaises(TypeError, getattr(errors, name))
                self.assertRaises(TypeError, getattr(errors, name), 1, 2)

    def test_the_others_are_made_with_a_text(self):
        for name in PLAIN:
            with self.subTest(name):
                refusal = getattr(errors, name)("some words")
                self.assertEqual(str(refusal), "some words")
                self.assertEqual(vars(refusal), {})

    def test_raised_and_taken(self):
        for name in NAMES:
            for taken in (getattr(errors, name), TrudgeError, ValueError):
                with self.subTest((name, taken)), self.assertRaises(taken):
                    raise getattr(errors, name)("words or field")

    def test_copies_keep_the_field(self):
        for name, field in FIELDS.items():
            refusal = getattr(errors, name)(5)
            for other in (copy.copy(refusal), pickle.loads(pickle.dumps(refusal))):
                self.assertIs(other.__class__, refusal.__class__)
                self.assertEqual(getattr(other, field), 5)


if __name__ == "__main__":
    unittest.main()
