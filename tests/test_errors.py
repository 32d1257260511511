"""[0.6] and the interface's list of errors."""

import copy
import pickle
import unittest

from askedtrue import errors
from tests.helpers import Case

LIST = {
    "BadOrder": ("what", "name"), "BadText": ("row",), "BadWorld": ("what",), "BadNet": ("what", "at"),
    "BadLots": ("what", "at"), "BadScript": ("what", "at"), "BadPlan": ("what",), "BadPath": ("at",),
    "BadDeadline": ("at",), "BadMargin": ("what",), "BadProgram": ("end", "beat"), "BadFoe": ("what",),
    "BadRounds": ("what", "name"), "BadChecks": ("what",), "BadWeather": ("what",), "BadStream": ("what",),
    "BadRing": ("what",), "BadDeed": ("what",), "NoDeed": (),
}


class Errors(Case):
    def test_all_stand_straight_under_asked_error(self):
        self.assertEqual(errors.AskedError.__bases__, (ValueError,))
        for name in LIST:
            self.assertEqual(getattr(errors, name).__bases__, (errors.AskedError,), name)

    def test_there_are_no_others(self):
        classes = [name for name, thing in vars(errors).items() if isinstance(thing, type)]
        self.assertEqual(sorted(classes), sorted([*LIST, "AskedError"]))

    def test_attributes_in_order_and_by_name(self):
        for name, attributes in LIST.items():
            values = [["thing", at] for at in range(len(attributes))]
            by_place = getattr(errors, name)(*values)
            by_name = getattr(errors, name)(**dict(zip(attributes, values)))
            for error in (by_place, by_name):
                for attribute, value in zip(attributes, values):
                    self.assertIs(getattr(error, attribute), value)

    def test_takes_no_more_and_no_less(self):
        for name, attributes in LIST.items():
            with self.assertRaises(TypeError):
                getattr(errors, name)(*range(len(attributes) + 1))
            if attributes:
                with self.assertRaises(TypeError):
                    getattr(errors, name)()

    def test_equal_by_class_and_attributes(self):
        for name, attributes in LIST.items():
            made = getattr(errors, name)
            values = list(range(len(attributes)))
            others = [getattr(errors, other)(*range(len(LIST[other]))) for other in LIST if other != name]
            for at in range(len(attributes)):
                others.append(made(*[*values[:at], "other", *values[at + 1:]]))
            self.assert_equals(lambda: made(*values), others)

    def test_is_caught_as_value_error(self):
        for name, attributes in LIST.items():
            with self.assertRaises(ValueError):
                raise getattr(errors, name)(*attributes)

    def test_can_be_copied(self):
        error = errors.BadNet("way", 3)
        self.assertEqual(copy.copy(error), error)
        self.assertEqual(pickle.loads(pickle.dumps(error)), error)


if __name__ == "__main__":
    unittest.main()
