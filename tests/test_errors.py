"""The error classes: attributes, base classes, positions and keywords."""

import unittest

from walkagon import errors
from walkagon.reach.reasons import Congruence, JointCount, Reason, StickCount

ARGUMENTS = {
    "BadPolygon": ("index", (0, 3, 8)),
    "BadText": ("index", (0, 3, 12)),
    "NotClosed": ("rest", ((1, 0), (-(10 ** 15), 10 ** 15))),
    "BadJoint": ("joint", (-1, 3, 10 ** 15)),
    "BadScript": ("index", (0, 17)),
    "Unreachable": ("reason", (None, "a reason", (1, 2))),
    "TooMany": ("count", (0, 5001, 10 ** 40)),
    "TooFew": ("count", (0, 2)),
    "UnknownField": ("name", ("", "width")),
}
PLAIN = ("BadPlaces", "NotPlane")
# Every class takes any of these: numbers, texts, vectors and reasons.
VALUES = (0, -1, 8, 5001, -(10 ** 15), 10 ** 40, "", "area", "a b\nc", (0, 0), (1, 0), (-(10 ** 15), 10 ** 15),
          Reason(), JointCount(), StickCount((1, -2)), Congruence(1, 1, 2))


def made_errors():
    """One error of each class below WalkError, by the name of the class."""
    found = {name: getattr(errors, name)(values[-1]) for name, (_, values) in ARGUMENTS.items()}
    for name in PLAIN:
        found[name] = getattr(errors, name)()
    return found


class ErrorTest(unittest.TestCase):
    def test_attribute_by_position(self):
        for name, (attribute, values) in ARGUMENTS.items():
            for value in values:
                with self.subTest(name=name, value=value):
                    self.assertEqual(getattr(getattr(errors, name)(value), attribute), value)

    def test_attribute_by_keyword(self):
        for name, (attribute, values) in ARGUMENTS.items():
            for value in values:
                with self.subTest(name=name, value=value):
                    error = getattr(errors, name)(**{attribute: value})
                    self.assertEqual(getattr(error, attribute), value)

    def test_each_kind_of_value(self):
        for name, (attribute, _) in ARGUMENTS.items():
            for value in VALUES:
                with self.subTest(name=name, value=value):
                    self.assertIs(getattr(getattr(errors, name)(value), attribute), value)
                    self.assertIs(getattr(getattr(errors, name)(**{attribute: value}), attribute), value)

    def test_stored_attributes_are_the_arguments_only(self):
        for name, error in made_errors().items():
            with self.subTest(name=name):
                expected = [ARGUMENTS[name][0]] if name in ARGUMENTS else []
                self.assertEqual(list(vars(error)), expected)

    def test_reason_is_the_same_object(self):
        reason = object()
        self.assertIs(errors.Unreachable(reason).reason, reason)
        self.assertIs(errors.Unreachable(reason=reason).reason, reason)

    def test_base_classes(self):
        self.assertEqual(errors.WalkError.__bases__, (ValueError,))
        for name, error in made_errors().items():
            with self.subTest(name=name):
                self.assertIsInstance(error, errors.WalkError)
                self.assertIsInstance(error, ValueError)
                self.assertEqual(type(error).__bases__, (errors.WalkError,))

    def test_no_class_below_another_one(self):
        found = made_errors()
        for name, error in found.items():
            for other in found:
                with self.subTest(name=name, other=other):
                    self.assertEqual(isinstance(error, getattr(errors, other)), name == other)

    def test_classes_are_defined_in_the_file(self):
        for name in ("WalkError", *ARGUMENTS, *PLAIN):
            with self.subTest(name=name):
                self.assertEqual(getattr(errors, name).__module__, "walkagon.errors")
                self.assertEqual(getattr(errors, name).__name__, name)

    def test_caught_as_a_value_error(self):
        for name, error in made_errors().items():
            with self.subTest(name=name):
                with self.assertRaises(ValueError) as caught:
                    raise error
                self.assertIs(caught.exception, error)

    def test_arguments_are_needed(self):
        for name in ARGUMENTS:
            with self.subTest(name=name), self.assertRaises(TypeError):
                getattr(errors, name)()


if __name__ == "__main__":
    unittest.main()
