"""[3]: the error classes."""

import inspect
import itertools
import unittest

from braceloops import errors

PLAIN = [
    "InvalidWord", "InvalidRow", "InvalidProduct", "InvalidIndex", "InvalidSize", "InvalidText",
    "NotARow", "NotLoops", "NotAFactor", "LastFactor", "NothingToUndo",
]
WITH_ATTRIBUTE = {"TooMany": "limit", "NotASize": "size", "NotAscending": "index"}


class ErrorClasses(unittest.TestCase):
    def test_the_base_class_is_a_value_error(self):
        self.assertTrue(issubclass(errors.BraceError, ValueError))

    def test_the_classes_are_those_of_the_interface(self):
        found = [name for name, _ in inspect.getmembers(errors, inspect.isclass)]
        self.assertEqual(sorted(found), sorted(["BraceError", *PLAIN, *WITH_ATTRIBUTE]))

    def test_each_class_derives_from_the_base_class(self):
        for name in [*PLAIN, *WITH_ATTRIBUTE]:
            with self.subTest(name):
                self.assertTrue(issubclass(getattr(errors, name), errors.BraceError))
                self.assertEqual(getattr(errors, name).__module__, "braceloops.errors")

    def test_no_class_but_the_base_class_is_above_another_one(self):
        for name, other in itertools.permutations([*PLAIN, *WITH_ATTRIBUTE], 2):
            with self.subTest(name=name, other=other):
                self.assertFalse(issubclass(getattr(errors, name), getattr(errors, other)))

    def test_plain_classes_are_called_without_arguments(self):
        for name in PLAIN:
            with self.subTest(name), self.assertRaises(errors.BraceError):
                raise getattr(errors, name)()

    def test_attributes_are_set_by_position_and_by_name(self):
        for name, attribute in WITH_ATTRIBUTE.items():
            with self.subTest(name):
                made = getattr(errors, name)
                self.assertEqual(getattr(made(7), attribute), 7)
                self.assertEqual(getattr(made(**{attribute: 10 ** 100}), attribute), 10 ** 100)
