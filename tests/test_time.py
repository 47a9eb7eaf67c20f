"""Time: no call gets slower with the size of a row, and letters may have some thousand levels.

The bounds are wide: they are there to tell work by letters from work by words.
"""

import time
import unittest

from onestroke.limits import SIZE
from onestroke.rows import Row, is_letters, letters, row_of
import plain


def levels_of(entries):
    """The level of the last letter of a list of letters."""
    levels = []
    for entry in entries:
        levels.append(0 if isinstance(entry, str) else levels[entry[0][0]] + 1)
    return levels[-1]


def growing(one, other, steps):
    """The row before with another one behind it, so many times over."""
    for _ in range(steps):
        one, other = one + other, one
    return one, other


def growing_letters(steps):
    """The letters of growing(Row("a"), Row("b"), steps)[0] for an odd number of steps from 3 on."""
    entries = ["a", "b", ((0, 1), (1, 1)), ((0, 2), (1, 1))]
    for index in range(2, steps - 1, 2):
        entries.append(((index, 1), (index + 1, 1)))
        entries.append(((index, 1), (index + 1, 2)))
    return entries + [((steps - 1, 1), (steps, 1))]


class Time(unittest.TestCase):

    def setUp(self):
        self.began = time.perf_counter()

    def within(self, seconds):
        self.assertLess(time.perf_counter() - self.began, seconds)

    def use_all(self, row, draw):
        """Every method, at places far inside the row."""
        at = draw.randrange(row.size)
        end = draw.randint(at, row.size)
        one, two, three = row.part(0, at), row.part(at, end - at), row.part(end, row.size - end)
        self.assertTrue((one + two) + three == row == one + (two + three))
        self.assertTrue(row.without(one) == two + three)
        self.assertEqual(row.common(one + Row("q")), at)
        self.assertFalse(row.starts_with(one + Row("q")))
        self.assertEqual(row[at], next(row.listed(at)))
        self.assertTrue(row_of(letters(row)) == row)

    def test_the_greatest_rows(self):
        draw = plain.drawing(31)
        for _ in range(20):
            unit = Row.of(plain.some_words(draw, 100))
            row = unit * (SIZE // (unit.size * 10 ** 1000)) + Row.of(plain.some_words(draw, 10))
            row = row * (SIZE // row.size)
            self.assertGreater(row.size, SIZE // 10)
            self.use_all(row, draw)
        self.within(30)

    def test_powers_of_powers(self):
        draw = plain.drawing(32)
        row = Row("a")
        while row.size * 10 ** 61 <= SIZE:
            row = (row + Row(draw.choice("abcd"))) * draw.randint(10 ** 9, 10 ** 60)
        self.assertGreater(levels_of(letters(row)), 60)
        self.use_all(row, draw)
        self.within(30)

    def test_many_levels(self):
        draw = plain.drawing(33)
        row, other = growing(Row("a"), Row("b"), 2000)
        entries = letters(row)
        self.assertGreaterEqual(levels_of(entries), 1000)
        self.assertTrue(is_letters(entries))
        self.use_all(row, draw)
        self.assertTrue(row + other == growing(row, other, 1)[0])
        self.assertTrue(row * 3 == row + row + row)
        self.assertEqual((row * 10 ** 60).size, row.size * 10 ** 60)
        self.within(120)

    def test_letters_of_growing_rows(self):
        for steps in range(3, 60, 2):
            self.assertEqual(letters(growing(Row("a"), Row("b"), steps)[0]), growing_letters(steps))

    def test_some_thousand_levels(self):
        entries = growing_letters(12001)
        self.assertEqual(levels_of(entries), 6001)
        self.assertTrue(is_letters(entries))
        row = row_of(entries)
        self.assertEqual(letters(row), entries)
        self.use_all(row, plain.drawing(34))
        self.assertTrue(row + row == row * 2)
        self.assertTrue(row.part(0, row_of(growing_letters(11999)).size) == row_of(growing_letters(11999)))
        self.assertEqual((row * 10 ** 600).common(row * 10 ** 500), row.size * 10 ** 500)
        for at in (2, 3, 6000, 6001, len(entries) - 2, len(entries) - 1):
            index, times = entries[at][1]
            for pair in ((index, 0), (index, True), (index - 1, times), (at, times), (at + 1, times), (0, times)):
                self.assertFalse(is_letters(entries[:at] + [entries[at][:1] + (pair,)] + entries[at + 1:]), at)
            self.assertFalse(is_letters(entries[:at] + entries[at + 1:]) and at < len(entries) - 1, at)
            self.assertFalse(is_letters(entries[:at] + [entries[at]] + entries[at:]), at)
            self.assertFalse(is_letters(entries[:at] + [entries[at][:1]] + entries[at + 1:]), at)
        self.within(60)

    def test_long_letters(self):
        names = [first + other for first in "abcdefghijklmnopqrstuvwxyz" for other in "abcdefghijklmnopqrstuvwxyz"]
        row = Row.of(names) + Row("zzz")
        for number in (1, 10 ** 9, 10 ** 60):
            self.use_all(row * number, plain.drawing(35))
        self.within(30)

    def test_many_calls(self):
        row = Row()
        draw = plain.drawing(36)
        for _ in range(2000):
            row = row + Row(draw.choice("ab"))
        self.assertEqual(row.size, 2000)
        great = row * 10 ** 1000
        self.assertEqual([great[at] for at in range(10 ** 900, 10 ** 900 + 2000)],
                         list(great.part(10 ** 900, 2000).listed()))
        self.within(60)


if __name__ == "__main__":
    unittest.main()
