"""onestroke/errors.py: each class, its fields, and what it is below."""

import inspect
import unittest

from onestroke import errors
from onestroke.rows import Row
from plain import ODD

CLASSES = {
    ValueError: {
        "InvalidWords": ["value"], "InvalidItem": ["field"], "InvalidText": ["index"], "InvalidMode": ["value"],
        "InvalidStroke": ["value"], "InvalidBodies": ["value"], "InvalidPattern": ["value"],
        "InvalidPressed": ["value"], "NotBeginning": [], "Clash": ["mode", "key"], "CommandError": ["value"],
    },
    TypeError: {"NotAnItem": ["index"], "NotABody": ["value"], "NotABook": ["index"]},
    LookupError: {"OutOfRange": ["value"], "UnknownStroke": ["value"], "UnknownState": ["value"]},
    OverflowError: {"TooMany": ["limit"], "TooFew": ["limit"], "TooDeep": ["limit"], "TooLong": ["limit"]},
    RuntimeError: {
        "NeverEnds": ["key"], "Unlike": ["pressed"], "Endless": ["pressed"], "TooBig": ["mode", "key"], "InTrial": [],
    },
}

EACH = [(base, name, fields) for base, group in CLASSES.items() for name, fields in group.items()]


class Errors(unittest.TestCase):

    def test_all_classes_and_no_others(self):
        found = {name for name, value in vars(errors).items() if inspect.isclass(value)}
        self.assertEqual(found, {name for _, name, _ in EACH})

    def test_each_is_directly_below_its_own_error_alone(self):
        for base, name, _ in EACH:
            made = getattr(errors, name)
            self.assertEqual(made.__bases__, (base,), name)
            self.assertEqual(made.__module__, "onestroke.errors")
            for other in CLASSES:
                self.assertEqual(issubclass(made, other), other is base, (name, other))

    def test_no_error_is_below_another_one(self):
        for _, name, _ in EACH:
            for _, other, _ in EACH:
                if name != other:
                    self.assertFalse(issubclass(getattr(errors, name), getattr(errors, other)), (name, other))

    def test_fields_by_position_and_by_name_are_the_very_values(self):
        values = list(ODD) + [Row(), Row("a"), errors.NotBeginning()]
        for _, name, fields in EACH:
            made = getattr(errors, name)
            for first in values:
                given = [first, [first]][:len(fields)]
                for error in (made(*given), made(**dict(zip(fields, given)))):
                    for field, value in zip(fields, given):
                        self.assertIs(getattr(error, field), value, name)
                    self.assertEqual(set(vars(error)), set(fields), name)

    def test_they_are_raised_and_caught(self):
        for base, name, fields in EACH:
            made = getattr(errors, name)
            value = ["kept"]
            with self.assertRaises(base) as caught:
                raise made(*[value for _ in fields])
            self.assertIs(type(caught.exception), made)
            for field in fields:
                self.assertIs(getattr(caught.exception, field), value)

    def test_names_of_the_arguments(self):
        for _, name, fields in EACH:
            if fields:
                made = inspect.signature(getattr(errors, name))
                self.assertEqual(list(made.parameters), fields, name)


if __name__ == "__main__":
    unittest.main()
