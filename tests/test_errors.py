"""Point [6] and the heading knownlate/errors.py: the classes of errors and their attributes."""

import unittest

from knownlate import errors
from tests.samples import deep_dict, deep_list, deep_tuple, odd_objects, odd_rows

ATTRIBUTES = {
    "BadState": ("value",),
    "BadSteps": ("at",),
    "BadFaults": ("word",),
    "NotLive": ("state",),
    "BadWord": ("value",),
    "BadWatch": ("value",),
    "BadWatches": ("at",),
    "BadRun": ("at",),
    "BadSights": ("at",),
    "NoFault": ("name",),
    "BadCount": ("value",),
    "BadCosts": ("word",),
    "BadRows": ("at",),
    "BadProbes": ("name",),
    "TooMany": ("limit",),
    "NotText": ("line", "reason"),
    "NothingDone": (),
}


class ErrorClasses(unittest.TestCase):
    def test_all_seventeen_classes_are_direct_subclasses(self):
        found = [name for name, value in vars(errors).items()
                 if isinstance(value, type) and value is not errors.KnowError]
        self.assertEqual(sorted(found), sorted(ATTRIBUTES))
        self.assertEqual(len(ATTRIBUTES), 17)
        for name in ATTRIBUTES:
            self.assertEqual(getattr(errors, name).__bases__, (errors.KnowError,), name)
        self.assertEqual(errors.KnowError.__bases__, (ValueError,))

    def test_classes_are_defined_in_their_file(self):
        for name in list(ATTRIBUTES) + ["KnowError"]:
            self.assertEqual(getattr(errors, name).__module__, "knownlate.errors")

    def test_attributes_are_set_by_position_and_by_name(self):
        for name, attributes in ATTRIBUTES.items():
            values = [object() for _ in attributes]
            by_position = getattr(errors, name)(*values)
            by_name = getattr(errors, name)(**dict(zip(attributes, values)))
            for made in (by_position, by_name):
                self.assertEqual(list(vars(made)), list(attributes), name)
                for attribute, value in zip(attributes, values):
                    self.assertIs(getattr(made, attribute), value)

    def test_arguments_are_asked_for(self):
        for name, attributes in ATTRIBUTES.items():
            with self.assertRaises(TypeError):
                getattr(errors, name)(*range(len(attributes) + 1))
            if attributes:
                with self.assertRaises(TypeError):
                    getattr(errors, name)()

    def test_errors_hold_any_object_and_can_be_shown(self):
        values = odd_objects() + odd_rows() + [deep_list(), deep_tuple(), deep_dict(), 10 ** 6000]
        for name, attributes in ATTRIBUTES.items():
            for value in values:
                made = getattr(errors, name)(*[value for _ in attributes])
                for attribute in attributes:
                    self.assertIs(getattr(made, attribute), value)
                self.assertIsInstance(str(made), str)
                self.assertIsInstance(repr(made), str)

    def test_errors_are_raised_and_caught_by_the_bases(self):
        for name, attributes in ATTRIBUTES.items():
            for base in (errors.KnowError, ValueError):
                with self.assertRaises(base):
                    raise getattr(errors, name)(*[None for _ in attributes])

    def test_errors_for_watches_and_faults_hold_the_very_value(self):
        # The arguments of point [7] are those of later modules; here are the errors that it names.
        value = [[]]
        self.assertIs(errors.BadWatch(value).value, value)
        self.assertIs(errors.NoFault(value).name, value)
        self.assertEqual([errors.BadWatches(-1).at, errors.BadWatches(2).at], [-1, 2])


if __name__ == "__main__":
    unittest.main()
