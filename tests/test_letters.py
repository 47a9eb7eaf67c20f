"""is_letters and row_of: lists of letters as they must be, and with something otherwise."""

import itertools
import unittest

from onestroke.errors import InvalidWords
from onestroke.limits import SIZE
from onestroke.rows import Row, is_letters, letters, row_of
import plain


def changed_pairs(entry):
    """Tuples like an entry, with one thing otherwise."""
    for at, (index, times) in enumerate(entry):
        for pair in ((index, times + 1), (index, times - 1), (index + 1, times), (index - 1, times), (times, index)):
            yield entry[:at] + (pair,) + entry[at + 1:]
        yield entry[:at] + entry[at + 1:]
        yield entry[:at] + ((index, times), (index, times)) + entry[at + 1:]
        yield entry[:at] + ((index, 1), (index, times)) + entry[at + 1:]
        yield entry[:at + 1] + ((0, 1),) + entry[at + 1:]
        if at > 0:
            yield entry[:at - 1] + (entry[at], entry[at - 1]) + entry[at + 1:]
    yield entry[::-1]
    yield entry + entry


def changed_lists(entries):
    """Lists like a list of letters, with one thing otherwise."""
    for at, entry in enumerate(entries):
        yield entries[:at] + entries[at + 1:]
        yield entries[:at] + [entry] + entries[at:]
        yield entries + [entry]
        yield [entry] + entries
        for other in range(at):
            changed = list(entries)
            changed[at], changed[other] = changed[other], changed[at]
            yield changed
        if isinstance(entry, str):
            for word in ("a", "b", "c", "d"):
                yield entries[:at] + [word] + entries[at + 1:]
        else:
            for pairs in changed_pairs(entry):
                yield entries[:at] + [pairs] + entries[at + 1:]
    yield entries + ["d"]
    yield ["d"] + entries
    yield entries[::-1]
    yield entries + [((len(entries) - 1, 1),)]
    yield entries + [((len(entries) - 1, 2),)]


def is_readable(entries):
    """Whether each entry is a word or a tuple of pairs of earlier entries, with times from 1 on."""
    for at, entry in enumerate(entries):
        if isinstance(entry, str):
            continue
        if not entry or not all(0 <= index < at and times >= 1 for index, times in entry):
            return False
    return True


class Letters(unittest.TestCase):

    def test_all_short_rows(self):
        for size in range(9):
            for words in itertools.product("ab", repeat=size):
                entries = plain.letters_of(words)
                self.assertIs(is_letters(entries), True, entries)
                self.assertTrue(row_of(entries) == Row(*words))
                self.assertEqual(row_of(entries).size, size)

    def test_random_rows(self):
        draw = plain.drawing(11)
        for _ in range(300):
            words = plain.some_words(draw, 300)
            entries = plain.letters_of(words)
            self.assertTrue(is_letters(entries))
            row = row_of(entries)
            self.assertTrue(row == Row.of(words))
            self.assertEqual(letters(row), entries)
            self.assertEqual(list(row.listed()), words)

    def test_the_list_is_copied(self):
        entries = plain.letters_of(["a", "b", "a"])
        row = row_of(entries)
        entries[0] = "z"
        entries.append("c")
        self.assertTrue(row == Row("a", "b", "a"))

    def check_otherwise(self, words):
        """Each list that differs a bit is one of letters exactly if it is that of the words it stands for."""
        for entries in changed_lists(plain.letters_of(words)):
            expected = is_readable(entries)
            if expected:
                stands_for = plain.words_of(entries)
                expected = plain.letters_of(stands_for) == entries
            self.assertIs(is_letters(entries), expected, entries)
            if expected:
                self.assertTrue(row_of(entries) == Row.of(stands_for))
            else:
                self.refused(entries)

    def refused(self, value):
        """No letters, and the error of row_of has the very value."""
        self.assertIs(is_letters(value), False, value)
        with self.assertRaises(InvalidWords) as caught:
            row_of(value)
        self.assertIs(caught.exception.value, value)

    def test_something_otherwise_in_short_rows(self):
        for size in range(8):
            for words in itertools.product("abc" if size < 6 else "ab", repeat=size):
                self.check_otherwise(words)

    def test_something_otherwise_in_random_rows(self):
        draw = plain.drawing(12)
        for _ in range(60):
            self.check_otherwise(plain.some_words(draw, 40))

    def test_lists_of_few_entries(self):
        pairs = [(index, times) for index in range(3) for times in (1, 2)]
        tuples = [item for many in (1, 2, 3) for item in itertools.product(pairs, repeat=many)]
        for words in (["a", "b"], ["b", "a"], ["a"]):
            for one in tuples:
                for other in [None] + tuples[:42]:
                    entries = words + [one] + ([] if other is None else [other])
                    expected = is_readable(entries) and plain.letters_of(plain.words_of(entries)) == entries
                    self.assertIs(is_letters(entries), expected, entries)

    def test_values_of_any_kind(self):
        for value in plain.ODD:
            if value not in ([], ["a"]):
                self.refused(value)
        self.refused(Row("a"))
        self.refused(tuple(plain.letters_of(["a", "b"])))
        self.assertTrue(is_letters([]))
        self.assertTrue(row_of([]) == Row())

    def test_odd_values_at_any_place(self):
        for value in plain.ODD + (Row("a"), Row()):
            if value not in ("a", "b"):
                self.refused([value] if value != "" else [""])
                self.refused(["a", value])
                self.refused([value, ((0, 2),)])
            self.refused(["a", (value,)])
            self.refused(["a", "b", ((0, 1), value)])
            self.refused(["a", "b", (value, (1, 1))])
            if value is True or not isinstance(value, int):
                self.refused(["a", ((0, value),)])
                self.refused(["a", "b", ((0, value), (1, 1))])
            if value is True or value is False or not isinstance(value, int):
                self.refused(["a", ((value, 2),)])
                self.refused(["a", "b", ((value, 1), (1, 2))])

    def test_integers_at_any_place(self):
        for times in (0, -1, -10 ** 30, True, False):
            self.refused(["a", ((0, times),)])
            self.refused(["a", "b", ((0, times), (1, 2))])
        for index in (-1, -2, 1, 2, 3, 10 ** 30, True, False):
            self.refused(["a", ((index, 2),)])
        for index in (-1, -2, -3, 2, 3, 4, 10 ** 30, False):
            self.refused(["a", "b", ((index, 1), (1, 1))])
        self.assertTrue(is_letters(["a", ((0, 2),)]))

    def test_lists_for_tuples(self):
        self.refused(["a", [(0, 2)]])
        self.refused(["a", ([0, 2],)])
        self.refused(["a", [[0, 2]]])
        self.refused([["a"], ((0, 2),)])
        self.refused(("a", ((0, 2),)))
        self.refused(["a", (0, 2)])
        self.refused(["a", ((0, 2, 1),)])
        self.refused(["a", ((0,),)])
        self.refused(["a", ()])

    def test_unlike_levels(self):
        row = Row("a", "b", "a", "c", "a", "b")
        entries = letters(row)
        high = len(entries) - 1
        self.refused(entries + [((0, 1), (high, 1))])
        self.refused(entries + [((high, 1), (0, 1))])
        self.refused(["a", "b", ((0, 1), (1, 1)), ((0, 1), (2, 1))])
        self.refused(["a", "b", ((0, 1), (1, 1)), ((2, 1), (0, 1))])

    def test_levels_that_are_cut_otherwise(self):
        # b a c is cut ahead of the a: as one tuple it is not folded.
        self.assertTrue(is_letters(["b", ((0, 1),), "a", "c", ((2, 1), (3, 1)), ((1, 1), (4, 1))]))
        self.refused(["b", "a", "c", ((0, 1), (1, 1), (2, 1))])
        # a b c has no cut.
        self.assertTrue(is_letters(["a", "b", "c", ((0, 1), (1, 1), (2, 1))]))
        self.refused(["a", ((0, 1),), "b", "c", ((2, 1), (3, 1)), ((1, 1), (4, 1))])
        self.refused(["a", "b", ((0, 1), (1, 1)), "c", ((3, 1),), ((2, 1), (4, 1))])
        # The last pair is never cut, a form is not folded once more, and runs are not cut.
        self.refused(["b", ((0, 1),), "a", ((2, 1),), ((1, 1), (3, 1))])
        self.refused(["a", ((0, 2),), ((1, 1),)])
        self.refused(["a", ((0, 1),)])
        self.refused(["a", ((0, 1),), ((1, 2),)])
        self.refused(["a", "b", ((0, 1), (1, 1)), ((2, 1),)])
        # Neighbours with equal letters would be one run.
        self.refused(["a", ((0, 1), (0, 1))])
        self.refused(["b", "a", ((0, 1), (1, 1)), "c", ((1, 1), (3, 1)), ((2, 1), (4, 1))])

    def test_powers_with_a_cut_between_their_letters(self):
        self.assertTrue(is_letters(["a", "b", ((0, 1), (1, 1)), ((2, 5),)]))
        self.refused(["b", "a", ((0, 1), (1, 1)), ((2, 5),)])
        self.refused(["a", ((0, 2),), ((1, 5),)])
        entries = letters(Row("a", "b") * 10 ** 60)
        self.assertTrue(is_letters(entries))
        self.assertTrue(row_of(entries) == Row("a", "b") * 10 ** 60)
        for at, entry in enumerate(entries):
            for number in (0, -1, True, None, "a", (1,), b"a"):
                if not isinstance(entry, str):
                    self.refused(entries[:at] + [((entry[0][0], number),) + entry[1:]] + entries[at + 1:])

    def test_great_rows(self):
        draw = plain.drawing(13)
        for _ in range(60):
            row = Row()
            for _ in range(draw.randint(1, 4)):
                row = (row + Row.of(plain.some_words(draw, 8))) * draw.randint(1, 10 ** draw.randint(1, 60))
            entries = letters(row)
            self.assertTrue(is_letters(entries))
            self.assertTrue(row_of(entries) == row)
            self.assertEqual(row_of(entries).size, row.size)

    def test_more_words_than_the_limit(self):
        self.assertTrue(is_letters(["a", ((0, SIZE),)]))
        self.assertEqual(row_of(["a", ((0, SIZE),)]).size, SIZE)
        self.refused(["a", ((0, SIZE + 1),)])
        self.refused(["a", ((0, SIZE * 10),)])
        self.assertTrue(is_letters(["a", "b", ((0, SIZE - 1), (1, 1))]))
        self.refused(["a", "b", ((0, SIZE - 1), (1, 2))])
        self.refused(["a", "b", ((0, 1), (1, SIZE))])

    def test_more_words_than_the_limit_on_higher_levels(self):
        entries = letters(Row("a", "b") * 10 ** 60)
        top = [at for at, entry in enumerate(entries) if not isinstance(entry, str) and max(entry)[1] > 10 ** 50]
        at = top[0]
        for times, expected in ((SIZE // 2 - 10, True), (SIZE, False), (SIZE * SIZE, False)):
            changed = tuple((index, times if many > 10 ** 50 else many) for index, many in entries[at])
            self.assertIs(is_letters(entries[:at] + [changed] + entries[at + 1:]), expected)

    def test_numbers_that_would_grow_beyond_measure(self):
        entries = ["a", "b"]
        for _ in range(3000):
            entries.append(((len(entries) - 2, SIZE), (len(entries) - 1, SIZE)))
        self.refused(entries)
        entries = ["a", "b", ((0, SIZE), (1, SIZE)), ((0, SIZE), (1, 1))]
        for _ in range(300):
            high = len(entries)
            entries.append(((high - 2, SIZE), (high - 1, SIZE)))
            entries.append(((high - 2, SIZE), (high - 1, 1)))
        self.refused(entries)


if __name__ == "__main__":
    unittest.main()
