"""The exceptions: what each is made of, and what it is under."""

import unittest

from tests.samples import Hostile, no_integers
from turnedties import errors

WEB_ERRORS = [
    "InvalidModulus", "InvalidSize", "InvalidEdge", "InvalidNode", "InvalidWalk", "InvalidAmount", "InvalidGains",
    "InvalidPotential", "InvalidSwitch", "InvalidFixed", "InvalidWeights", "InvalidPrices", "InvalidTarget",
    "InvalidEdges", "InvalidMost", "InvalidHands", "InvalidWebs", "InvalidOperation", "InvalidText",
    "InvalidCommand",
]
BASES = {
    "WebError": ValueError, "NoEdge": LookupError, "NoHand": LookupError, "NoBoard": KeyError,
    "NothingToUndo": IndexError, "Unbalanced": RuntimeError, "Fixed": RuntimeError, "NotFixed": RuntimeError,
    "Unreachable": RuntimeError, "TooMany": OverflowError,
}
BASES.update({name: errors.WebError for name in WEB_ERRORS})
MADE_OF_VALUE = [name for name in BASES if name != "NothingToUndo"]


def error_class(name):
    return getattr(errors, name)


class ErrorClasses(unittest.TestCase):
    def test_each_class_is_directly_under_the_stated_one_alone(self):
        for name, base in BASES.items():
            with self.subTest(name):
                self.assertEqual((base,), error_class(name).__bases__)

    def test_each_class_is_defined_in_the_file(self):
        for name in BASES:
            with self.subTest(name):
                self.assertEqual("turnedties.errors", error_class(name).__module__)
                self.assertEqual(name, error_class(name).__name__)

    def test_there_are_twenty_web_errors(self):
        self.assertEqual(20, len(WEB_ERRORS))
        self.assertEqual(len(WEB_ERRORS), len(errors.WebError.__subclasses__()))

    def test_no_class_is_under_another_one_otherwise(self):
        for name in BASES:
            for other in BASES:
                expected = name == other or (other == "WebError" and name in WEB_ERRORS)
                with self.subTest(name=name, other=other):
                    self.assertIs(expected, issubclass(error_class(name), error_class(other)))

    def test_classes_outside_of_the_stated_ones(self):
        builtins = [ValueError, LookupError, KeyError, IndexError, RuntimeError, OverflowError, ArithmeticError]
        for name, base in BASES.items():
            above = [kind for kind in builtins if issubclass(base, kind)]
            with self.subTest(name):
                self.assertEqual(above, [kind for kind in builtins if issubclass(error_class(name), kind)])
                self.assertFalse(issubclass(error_class(name), (TypeError, AttributeError)))

    def test_no_edge_and_no_hand_are_not_under_key_or_index_errors(self):
        for error in (errors.NoEdge, errors.NoHand):
            self.assertTrue(issubclass(error, LookupError))
            self.assertFalse(issubclass(error, (KeyError, IndexError)))


class ErrorValues(unittest.TestCase):
    def test_the_value_is_kept_itself(self):
        for name in MADE_OF_VALUE:
            for value in no_integers() + [0, -1, 10 ** 5000]:
                by_place = error_class(name)(value)
                by_name = error_class(name)(value=value)
                with self.subTest(name):
                    self.assertIs(value, by_place.value)
                    self.assertIs(value, by_name.value)

    def test_the_value_is_needed_and_is_one(self):
        for name in MADE_OF_VALUE:
            with self.subTest(name):
                self.assertRaises(TypeError, error_class(name))
                self.assertRaises(TypeError, error_class(name), 1, 2)
                self.assertRaises(TypeError, error_class(name), other=1)

    def test_a_value_that_cannot_be_written_is_kept_and_raised(self):
        value = Hostile()
        for name in MADE_OF_VALUE:
            with self.subTest(name):
                with self.assertRaises(error_class(name)) as caught:
                    raise error_class(name)(value)
                self.assertIs(value, caught.exception.value)

    def test_nothing_to_undo_is_made_of_nothing(self):
        self.assertIsInstance(errors.NothingToUndo(), IndexError)
        self.assertFalse(hasattr(errors.NothingToUndo(), "value"))
        self.assertRaises(TypeError, errors.NothingToUndo, 1)
        self.assertRaises(TypeError, errors.NothingToUndo, value=1)


if __name__ == "__main__":
    unittest.main()
