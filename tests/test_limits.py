"""onestroke/limits.py: the names and their values."""

import unittest

from onestroke import limits

VALUES = {
    "MODES": 6, "KEYS": 6, "ITEMS": 6, "DEPTH": 2, "NUMBER": 1000000000, "BOOKS": 3, "STATES": 36,
    "SIZE": int("1" + "0" * 4000), "PATTERN": 8, "GOAL": 200,
}


class Limits(unittest.TestCase):

    def test_names_and_values(self):
        for name, value in VALUES.items():
            self.assertEqual(getattr(limits, name), value, name)
            self.assertIs(type(getattr(limits, name)), int, name)

    def test_no_other_names(self):
        found = {name for name in vars(limits) if not name.startswith("_")}
        self.assertEqual(found, set(VALUES))


if __name__ == "__main__":
    unittest.main()
