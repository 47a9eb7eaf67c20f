"""Small rows against plain lists: [3], [10] to [13], and the methods of Row."""

import itertools
import unittest

from onestroke.rows import Row, letters
import plain

SHORT = [list(words) for size in range(9) for words in itertools.product("ab", repeat=size)]
SHORT = SHORT + [list(words) for size in range(7) for words in itertools.product("abc", repeat=size) if "c" in words]
LONGEST = [list(words) for size in (9, 10) for words in itertools.product("ab", repeat=size)]


class Small(unittest.TestCase):

    def same(self, row, words):
        """The row is the one of these words: equal, with the same letters and size."""
        self.assertEqual(letters(row), plain.letters_of(words), words)
        self.assertEqual(row.size, len(words), words)
        if len(words) <= 1000:
            self.assertTrue(row == Row.of(words), words)

    def test_letters_of_all_short_rows(self):
        for words in SHORT + LONGEST:
            self.assertEqual(letters(Row(*words)), plain.letters_of(words), words)

    def test_letters_of_all_rows_of_three_words(self):
        for words in itertools.product("abc", repeat=8):
            self.assertEqual(letters(Row(*words)), plain.letters_of(words), words)

    def test_letters_of_random_rows(self):
        draw = plain.drawing(1)
        for _ in range(600):
            words = plain.some_words(draw, 300)
            self.assertEqual(letters(Row.of(words)), plain.letters_of(words), words)

    def test_letters_of_long_rows(self):
        draw = plain.drawing(2)
        names = ["w" + first + other for first in "abcdefghij" for other in "abcdefghijklmnopqrstuvwxyz"]
        for words in (
            ["a"] * 1000, ["a", "b"] * 500, sorted(names) * 3, sorted(names, reverse=True) * 3,
            [draw.choice(names) for _ in range(1000)], [draw.choice("ab") for _ in range(1000)],
        ):
            words = words[:1000]
            self.same(Row(*words), words)
            self.same(Row.of(words) + Row.of(words), words + words)

    def test_rows_are_equal_exactly_if_their_forms_are(self):
        rows = [(words, Row.of(words)) for words in SHORT[:200]]
        for words, row in rows:
            for others, other in rows:
                self.assertIs(row == other, words == others)
                self.assertIs(row != other, words != others)
                self.assertIs(letters(row) == letters(other), words == others)

    def test_size_words_and_places(self):
        draw = plain.drawing(3)
        for _ in range(200):
            words = plain.some_words(draw, 60)
            row = Row.of(words)
            self.assertEqual(row.size, len(words))
            self.assertEqual(row.words, tuple(sorted(set(words))))
            self.assertEqual([row[index] for index in range(len(words))], words)
            self.assertEqual(list(row.listed()), words)
        self.assertEqual((Row().size, Row().words, list(Row().listed()), letters(Row())), (0, (), [], []))

    def test_a_list_may_be_a_tuple_and_is_copied(self):
        words = ["a", "b", "a"]
        row = Row.of(words)
        words.append("c")
        words[0] = "z"
        self.assertEqual(list(row.listed()), ["a", "b", "a"])
        self.assertEqual(Row.of(("a", "b", "a")), row)
        self.assertEqual(Row(), Row.of([]))
        self.assertEqual(Row(), Row.of(()))

    def test_returned_lists_are_new(self):
        row = Row("a", "b", "a")
        found = letters(row)
        found[0] = "z"
        found.append("c")
        self.assertEqual(letters(row), plain.letters_of(["a", "b", "a"]))
        self.assertIsNot(letters(row), letters(row))
        self.assertIs(type(letters(row)), list)
        self.assertIs(type(row.words), tuple)
        self.assertIs(type(row.size), int)

    def test_sums_at_any_place_and_grouping(self):
        for words in SHORT:
            row = Row.of(words)
            for first in range(len(words) + 1):
                one, rest = Row.of(words[:first]), Row.of(words[first:])
                self.assertTrue(one + rest == row, (words, first))
            for first, other in itertools.combinations(range(len(words) + 1), 2):
                one, two, three = Row.of(words[:first]), Row.of(words[first:other]), Row.of(words[other:])
                self.assertTrue((one + two) + three == row == one + (two + three), words)

    def test_random_sums(self):
        draw = plain.drawing(4)
        for _ in range(500):
            one, other = plain.some_words(draw, 150), plain.some_words(draw, 150)
            rows = Row.of(one), Row.of(other)
            self.same(rows[0] + rows[1], one + other)
            self.same(rows[0], one)
            self.same(rows[1], other)

    def test_word_by_word(self):
        draw = plain.drawing(5)
        for _ in range(20):
            words = plain.some_words(draw, 120)
            ahead = behind = Row()
            for at, word in enumerate(words):
                behind = behind + Row(word)
                ahead = Row(words[-1 - at]) + ahead
                self.assertEqual(letters(behind), plain.letters_of(words[:at + 1]))
            self.assertTrue(ahead == behind == Row.of(words))

    def test_products_of_all_short_rows(self):
        for words in SHORT:
            if len(words) < 6:
                row = Row.of(words)
                for number in range(12):
                    self.same(row * number, words * number)
                    self.assertTrue(number * row == row * number)
                self.same(row, words)

    def test_random_products(self):
        draw = plain.drawing(6)
        for _ in range(300):
            words, number = plain.some_words(draw, 60), draw.randrange(40)
            self.same(Row.of(words) * number, words * number)
            self.same(number * Row.of(words), words * number)

    def test_products_of_rows_that_repeat_themselves(self):
        for size in range(1, 5):
            for words in itertools.product("abc", repeat=size):
                for times in (1, 2, 3, 7):
                    for number in (1, 2, 3, 4, 5, 8, 9, 17):
                        plain_words = list(words) * (times * number)
                        self.assertTrue(Row.of(list(words) * times) * number == Row.of(plain_words))

    def test_adding_in_place_gives_a_new_row(self):
        row = other = Row("a", "b")
        row += Row("c")
        self.same(row, ["a", "b", "c"])
        self.same(other, ["a", "b"])
        self.assertIsNot(row, other)
        row *= 2
        self.same(row, ["a", "b", "c"] * 2)

    def test_parts_of_all_short_rows(self):
        for words in SHORT:
            row = Row.of(words)
            for start in range(len(words) + 1):
                self.assertEqual(list(row.listed(start)), words[start:])
                for many in range(len(words) - start + 1):
                    part = row.part(start, many)
                    self.assertTrue(part == Row.of(words[start:start + many]), (words, start, many))
                    self.assertEqual(part.size, many)

    def test_random_parts(self):
        draw = plain.drawing(7)
        for _ in range(500):
            words = plain.some_words(draw, 200)
            row = Row.of(words)
            start = draw.randint(0, len(words))
            many = draw.randint(0, len(words) - start)
            self.same(row.part(start, many), words[start:start + many])
            self.assertEqual(list(row.listed(start)), words[start:])
            self.same(row, words)

    def test_common_beginnings_of_all_short_rows(self):
        rows = [(words, Row.of(words)) for words in SHORT if len(words) < 6]
        for words, row in rows:
            for others, other in rows:
                self.common(words, row, others, other)

    def common(self, words, row, others, other):
        many = plain.common_of(words, others)
        self.assertEqual(row.common(other), many, (words, others))
        self.assertIs(row.starts_with(other), many == len(others), (words, others))
        if many == len(others):
            self.assertTrue(row.without(other) == Row.of(words[many:]))

    def test_random_common_beginnings(self):
        draw = plain.drawing(8)
        for _ in range(500):
            words = plain.some_words(draw, 150)
            others = words[:draw.randint(0, len(words))]
            if draw.random() < 0.6:
                others = others + plain.some_words(draw, 40)
            row, other = Row.of(words), Row.of(others)
            self.common(words, row, others, other)
            self.common(others, other, words, row)
            self.same(row, words)
            self.same(other, others)

    def test_other_values_are_never_equal(self):
        for row in (Row(), Row("a"), Row("a", "b")):
            for value in plain.ODD:
                self.assertIs(row == value, False)
                self.assertIs(row != value, True)
                self.assertIs(value == row, False)
            self.assertFalse(row == letters(row))
            self.assertFalse(row == list(row.listed()))

    def test_rows_are_not_iterated_over(self):
        for row in (Row(), Row("a"), Row("a", "b")):
            with self.assertRaises(TypeError):
                iter(row)
            with self.assertRaises(TypeError):
                list(row)
            with self.assertRaises(TypeError):
                "a" in row
            with self.assertRaises(TypeError):
                one, *_ = row


if __name__ == "__main__":
    unittest.main()
