"""Refused calls: which error, with which value, which one first; and that everything is as before."""

import unittest

from onestroke.errors import InvalidWords, NotBeginning, OutOfRange, TooLong
from onestroke.limits import SIZE
from onestroke.rows import Row, letters
import plain

NO_INTEGERS = (None, True, False, "", "a", "0", b"0", (), (0,), [], [0], {}, {0: 0}, Row(), Row("a"), int, object())


class Refused(unittest.TestCase):

    def refused(self, error, field, value, action):
        """The action raises the error, with the very value in this field."""
        with self.assertRaises(error) as caught:
            action()
        self.assertIs(type(caught.exception), error)
        self.assertIs(getattr(caught.exception, field), value)

    def test_words_of_the_constructor(self):
        for value in plain.ODD + (Row("a"),):
            if value not in ("a",):
                for words in ((value,), ("a", value), (value, "a"), ("a", "b", value, None)):
                    with self.assertRaises(InvalidWords) as caught:
                        Row(*words)
                    self.assertIs(type(caught.exception.value), tuple)
                    self.assertEqual(len(caught.exception.value), len(words))
                    for one, other in zip(caught.exception.value, words):
                        self.assertIs(one, other)

    def test_words_of_a_list(self):
        for value in plain.ODD + (Row("a"),):
            if value not in ((), ("a",), [], ["a"]):
                self.refused(InvalidWords, "value", value, lambda value=value: Row.of(value))
            if value != "a":
                for words in ([value], ["a", value], (value,), (value, "a")):
                    self.refused(InvalidWords, "value", words, lambda words=words: Row.of(words))

    def test_words_are_1_to_8_letters_from_a_to_z(self):
        for word in ("a", "z", "az", "abcdefgh", "zzzzzzzz"):
            self.assertEqual(letters(Row(word)), [word])
        for word in ("", "abcdefghi", "A", "aB", "a1", "1", "a ", " a", "a\n", "a.", "~", "`", "{", "@", "_", "-"):
            self.refused(InvalidWords, "value", words := [word], lambda words=words: Row.of(words))

    def test_at_most_1000_words(self):
        words = ["a", "b"] * 500
        self.assertEqual(Row.of(words).size, 1000)
        self.assertEqual(Row(*words).size, 1000)
        many = words + ["a"]
        self.refused(InvalidWords, "value", many, lambda: Row.of(many))
        with self.assertRaises(InvalidWords) as caught:
            Row(*many)
        self.assertEqual(caught.exception.value, tuple(many))

    def test_places(self):
        for row in (Row(), Row("a"), Row("a", "b", "a"), Row("a", "b") * 10 ** 30):
            before = letters(row)
            for value in NO_INTEGERS + (-1, -row.size - 1, row.size, row.size + 1, 10 ** 99, -10 ** 99):
                self.refused(OutOfRange, "value", value, lambda value=value: row[value])
            self.refused(OutOfRange, "value", SIZE, lambda: row[SIZE])
            self.assertEqual(letters(row), before)
            for start in NO_INTEGERS + (-1, row.size + 1, SIZE):
                self.refused(OutOfRange, "value", start, lambda start=start: list(row.listed(start)))
                self.refused(OutOfRange, "value", start, lambda start=start: next(iter(row.listed(start))))
            self.assertEqual(letters(row), before)

    def test_parts(self):
        for row in (Row(), Row("a"), Row("a", "b", "a"), Row("a", "b") * 10 ** 30):
            for start in NO_INTEGERS + (-1, row.size + 1, SIZE):
                for many in NO_INTEGERS + (-1, 0, 1, row.size, row.size + 1):
                    self.refused(OutOfRange, "value", start, lambda start=start, many=many: row.part(start, many))
            for start in (0, row.size // 2, row.size):
                for many in NO_INTEGERS + (-1, row.size - start + 1, row.size + 1, SIZE):
                    self.refused(OutOfRange, "value", many, lambda start=start, many=many: row.part(start, many))
                self.assertEqual(row.part(start, row.size - start).size, row.size - start)
                self.assertTrue(row.part(start, 0) == Row())

    def test_not_a_beginning(self):
        row = Row("a", "b", "a")
        for other in (Row("b"), Row("a", "a"), Row("a", "b", "b"), Row("a", "b", "a", "a"), Row("a", "b") * 10 ** 30):
            self.assertFalse(row.starts_with(other))
            with self.assertRaises(NotBeginning) as caught:
                row.without(other)
            self.assertEqual(vars(caught.exception), {})
        with self.assertRaises(NotBeginning):
            Row().without(Row("a"))
        self.assertTrue(row.without(Row()) == row)
        self.assertTrue(row.without(row) == Row() == Row().without(Row()))
        self.assertTrue(row == Row("a", "b", "a"))

    def too_long(self, action):
        with self.assertRaises(TooLong) as caught:
            action()
        self.assertEqual(caught.exception.limit, 10 ** 4000)

    def test_sums_that_are_too_long(self):
        for unit in (Row("a"), Row("b"), Row("a", "b")):
            most = unit * (SIZE // unit.size)
            self.assertEqual(most.size, SIZE)
            before = letters(most)
            self.too_long(lambda: most + Row("a"))
            self.too_long(lambda: Row("b") + most)
            self.too_long(lambda: most + most)
            self.assertTrue(most + Row() == most == Row() + most)
            less = most.part(0, SIZE - 2)
            self.assertEqual((less + Row("b", "a")).size, SIZE)
            self.assertEqual((Row("b", "a") + less).size, SIZE)
            self.too_long(lambda: less + Row("b", "a", "b"))
            self.too_long(lambda: Row("b", "a", "b") + less)
            self.assertEqual(letters(most), before)

    def test_products_that_are_too_long(self):
        for unit in (Row("a"), Row("a", "b"), Row("a", "b", "c", "b", "a")):
            self.assertEqual((unit * (SIZE // unit.size)).size, SIZE)
            self.too_long(lambda: unit * (SIZE // unit.size + 1))
            self.too_long(lambda: (SIZE // unit.size + 1) * unit)
            self.too_long(lambda: unit * (SIZE * 10 ** 200))
        self.too_long(lambda: Row("a") * SIZE * 2)
        self.too_long(lambda: (Row("a", "b", "c") * (SIZE // 3)) * 2)
        self.assertEqual((Row("a", "b", "c") * (SIZE // 3)).size, SIZE - 1)
        self.too_long(lambda: Row("a", "b", "c") * (SIZE // 3 + 1))
        self.assertTrue(Row() * (SIZE * 10 ** 200) == Row())
        self.assertTrue(Row("a") * SIZE * 0 == Row())
        self.assertTrue(Row("a") * SIZE * 1 == Row("a") * SIZE)

    def test_adding_in_place_that_is_too_long(self):
        row = same = Row("a") * SIZE
        with self.assertRaises(TooLong):
            row += Row("b")
        self.assertIs(row, same)
        self.assertEqual(letters(row), ["a", ((0, SIZE),)])

    def test_bools_are_no_numbers_of_times(self):
        for number in (True, False):
            with self.assertRaises(TypeError):
                Row("a") * number
            with self.assertRaises(TypeError):
                number * Row("a")


if __name__ == "__main__":
    unittest.main()
