"""Point [11] and the interface under neverunsaid/errors.py."""

import inspect
import unittest

from helpers import values_of_all_kinds
from neverunsaid import errors

GIVEN = """InvalidLine InvalidText InvalidCell InvalidHouses InvalidRoads InvalidHouse InvalidSigns InvalidCount
    InvalidLines InvalidScript InvalidRows InvalidLater InvalidKey InvalidLife InvalidLetter InvalidActs InvalidAct
    InvalidKinds InvalidIndex""".split()
ATTRIBUTES = {
    "NotJoined": ["house"], "NotARoad": ["u", "v"], "NothingUnderWay": ["u", "v"], "Stopped": ["at"],
    "Faulty": ["fault"], "DoNotFit": ["picture"], "NotAhead": ["x", "z"], "SurelyAhead": ["x", "z"],
    "SameKey": ["key"], "NotHeld": ["key"], "Held": ["key"], "TooMany": ["count"], "NoStanding": [],
    "NotStanding": ["now"], "Down": ["house"], "Up": ["house"], "NoLetter": ["k"], "Refused": ["at"],
    "NotWhole": ["house"], "Turned": ["at"],
}
ATTRIBUTES.update({name: ["given"] for name in GIVEN})


class Point11(unittest.TestCase):
    def test_all_classes_stand_there_and_no_others(self):
        classes = dict(inspect.getmembers(errors, inspect.isclass))
        self.assertEqual(sorted(classes), sorted(list(ATTRIBUTES) + ["UnsaidError"]))
        for error in classes.values():
            self.assertEqual(error.__module__, "neverunsaid.errors")

    def test_each_is_a_direct_subclass_of_the_base_alone(self):
        self.assertEqual(errors.UnsaidError.__bases__, (ValueError,))
        for name in ATTRIBUTES:
            self.assertEqual(getattr(errors, name).__bases__, (errors.UnsaidError,))

    def test_attributes_by_position_and_by_name_keep_the_very_objects(self):
        for name, attributes in ATTRIBUTES.items():
            error = getattr(errors, name)
            for value in values_of_all_kinds():
                values = [value] + [[value] for _ in attributes[1:]]
                by_name = dict(zip(attributes, values))
                for made in (error(*values[:len(attributes)]), error(**by_name)):
                    self.assertEqual(sorted(vars(made)), sorted(attributes))
                    for attribute in attributes:
                        self.assertIs(getattr(made, attribute), by_name[attribute])

    def test_they_are_raised_and_caught_by_name(self):
        for name, attributes in ATTRIBUTES.items():
            error = getattr(errors, name)
            for base in (error, errors.UnsaidError, ValueError):
                with self.assertRaises(base):
                    raise error(*attributes)
        with self.assertRaises(ValueError):
            raise errors.UnsaidError()

    def test_wrong_numbers_of_attributes_are_refused(self):
        for name, attributes in ATTRIBUTES.items():
            if attributes:
                with self.assertRaises(TypeError):
                    getattr(errors, name)(*attributes, 1)
                with self.assertRaises(TypeError):
                    getattr(errors, name)(*attributes[1:])


if __name__ == "__main__":
    unittest.main()
