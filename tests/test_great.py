"""Great rows, never unfolded: what is known of them without their words, and words found far inside."""

import unittest

from onestroke.limits import SIZE
from onestroke.rows import Row, is_letters, letters, row_of
import plain

NUMBERS = (2, 3, 5, 17, 1000, 10 ** 9, 10 ** 9 + 1, 10 ** 20 - 1, 10 ** 60, 3 * 10 ** 60 + 7, 10 ** 200)


def great_row(draw, most=10 ** 60, depth=3):
    """A row that is a tree of powers and sums."""
    row = Row()
    for _ in range(draw.randint(1, 4)):
        if depth and draw.random() < 0.5:
            piece = great_row(draw, most, depth - 1)
        else:
            piece = Row.of(plain.some_words(draw, 6))
        row = row + piece * draw.choice((1, 2, 3, 7, draw.randint(1, 10 ** 9), draw.randint(1, most)))
    return row


class Tree:
    """A row as a tree of sums and powers over words, with the word at each place."""

    def __init__(self, draw, depth):
        self.times = draw.choice((1, 2, 3, draw.randint(1, 10 ** 9), draw.randint(1, 10 ** 40)))
        if depth == 0:
            self.parts = plain.some_words(draw, 6)
            self.row = Row.of(self.parts) * self.times
            self.sizes = [1 for _ in self.parts]
        else:
            self.parts = [Tree(draw, depth - 1) for _ in range(draw.randint(1, 3))]
            inner = Row()
            for part in self.parts:
                inner = inner + part.row
            self.row = self.times * inner
            self.sizes = [part.size for part in self.parts]
        self.size = self.times * sum(self.sizes)

    def word(self, index):
        index = index % (self.size // self.times)
        for part, size in zip(self.parts, self.sizes):
            if index < size:
                return part if isinstance(part, str) else part.word(index)
            index -= size


class Great(unittest.TestCase):

    def equal(self, one, *others):
        for other in others:
            self.assertTrue(one == other)
            self.assertFalse(one != other)
            self.assertEqual(one.size, other.size)
            self.assertEqual(letters(one), letters(other))

    def test_powers(self):
        draw = plain.drawing(21)
        for number in NUMBERS:
            for _ in range(12):
                row = Row.of(plain.some_words(draw, 30))
                power = row * number
                self.assertEqual(power.size, row.size * number)
                self.equal(row * (number + 1), power + row, row + power, (number + 1) * row)
                more = draw.choice(NUMBERS)
                self.equal(power * more, row * (number * more), (row * more) * number)
                self.equal(row * (number + more), power + row * more, row * more + power)

    def test_powers_of_great_rows(self):
        draw = plain.drawing(22)
        for _ in range(80):
            row = great_row(draw)
            number, more = draw.choice(NUMBERS), draw.randint(2, 10 ** 60)
            power = row * number
            self.equal(power + row, row * (number + 1), row + power)
            self.equal(power * more, row * (number * more))

    def test_powers_of_sums(self):
        draw = plain.drawing(23)
        for _ in range(80):
            one, other = great_row(draw, depth=1), great_row(draw, depth=1)
            number = draw.choice(NUMBERS)
            self.equal((one + other) * number + one, one + (other + one) * number)
            self.equal((one + other) * number, one + (other + one) * (number - 1) + other)

    def test_cut_and_put_together_again(self):
        draw = plain.drawing(24)
        for _ in range(80):
            row = great_row(draw)
            first = draw.randint(0, row.size)
            other = draw.randint(first, row.size)
            one, two, three = row.part(0, first), row.part(first, other - first), row.part(other, row.size - other)
            self.equal(row, (one + two) + three, one + (two + three))
            self.equal(row.without(one), two + three)
            self.equal(row.part(first, row.size - first).part(0, other - first), two)
            self.assertEqual(row.common(one + two), other)
            self.assertTrue(row.starts_with(one))

    def test_parts_at_the_seams(self):
        row = (Row("a", "b", "c") * 10 ** 20 + Row("c", "b")) * 10 ** 20
        unit = 3 * 10 ** 20 + 2
        for start in (unit - 3, unit - 2, unit - 1, unit, unit + 1, unit * 10 ** 19 - 2, unit * 10 ** 19):
            for many in (0, 1, 2, 3, 5, 10):
                words = [row[at] for at in range(start, start + many)]
                self.equal(row.part(start, many), Row.of(words))
            self.equal(row.part(start, unit * 5), row.part(start % unit, unit * 5), row.part(start % unit, unit) * 5)

    def test_words_at_any_place(self):
        draw = plain.drawing(25)
        for _ in range(60):
            tree = Tree(draw, 3)
            self.assertEqual(tree.row.size, tree.size)
            for _ in range(10):
                at = draw.randrange(tree.size)
                self.assertEqual(tree.row[at], tree.word(at))
                words = [tree.word(at + more) for more in range(12) if at + more < tree.size]
                found = tree.row.listed(at)
                self.assertEqual([next(found) for _ in words], words)
                self.assertEqual(list(tree.row.part(at, len(words)).listed()), words)
            self.assertEqual(tree.row[0], tree.word(0))
            self.assertEqual(tree.row[tree.size - 1], tree.word(tree.size - 1))

    def test_one_word_otherwise(self):
        draw = plain.drawing(26)
        for _ in range(80):
            row = great_row(draw)
            at = draw.choice((0, row.size - 1, row.size // 2, draw.randrange(row.size)))
            ahead, behind = row.part(0, at), row.part(at + 1, row.size - at - 1)
            word = row[at]
            self.equal(ahead + Row(word) + behind, row)
            other = "q" if draw.random() < 0.5 else draw.choice([name for name in plain.WORDS if name != word])
            exchanged = ahead + Row(other) + behind
            self.assertFalse(exchanged == row)
            self.assertEqual(exchanged.size, row.size)
            self.assertEqual((exchanged.common(row), row.common(exchanged)), (at, at))
            self.assertFalse(row.starts_with(exchanged))
            missing, twice = ahead + behind, ahead + Row(word, word) + behind
            self.assertFalse(missing == row or twice == row or missing == twice)
            self.assertEqual((missing.size + 1, twice.size - 1), (row.size, row.size))
            self.seen(row, missing, at)
            self.seen(twice, row, at)

    def seen(self, longer, shorter, at):
        """Where the longer one has one word more, the rows are alike as far as the same word comes."""
        many = longer.common(shorter)
        self.assertEqual(many, shorter.common(longer))
        self.assertGreaterEqual(many, at)
        self.assertTrue(longer.part(0, many) == shorter.part(0, many))
        if many < shorter.size:
            self.assertNotEqual(longer[many], shorter[many])

    def test_common_beginnings_of_powers(self):
        draw = plain.drawing(27)
        for _ in range(60):
            one, other = great_row(draw, depth=1), great_row(draw, depth=1)
            ahead = great_row(draw)
            many = (one * 10 ** 30).common(other * 10 ** 30)
            self.assertEqual((ahead + one * 10 ** 30).common(ahead + other * 10 ** 30), ahead.size + many)
            if many < min(one.size, other.size) * 10 ** 30:
                self.assertNotEqual((one * 10 ** 30)[many], (other * 10 ** 30)[many])
            self.assertTrue((one * 10 ** 30).part(0, many) == (other * 10 ** 30).part(0, many))
            self.assertEqual((one * 10 ** 20).common(one * 10 ** 30), one.size * 10 ** 20)
            self.assertTrue((one * 10 ** 30).starts_with(one * 10 ** 20))
            self.equal((one * 10 ** 30).without(one * 10 ** 20), one * (10 ** 30 - 10 ** 20))

    def test_letters_are_read_again(self):
        draw = plain.drawing(28)
        for _ in range(60):
            row = great_row(draw)
            self.assertTrue(is_letters(letters(row)))
            self.equal(row_of(letters(row)), row)
            self.assertEqual(row.words, tuple(sorted(word for word in letters(row) if isinstance(word, str))))

    def test_operands_stay_as_they_are(self):
        row, other = Row("a", "b") * 10 ** 30 + Row("c"), Row("b", "a") * 10 ** 40
        before = letters(row), letters(other)
        row + other, other + row, row * 10 ** 20, row.part(5, 10 ** 29), row.common(other), row.without(Row("a", "b"))
        row[10 ** 29], row.starts_with(other), next(row.listed(10 ** 20)), row == other, row_of(before[0])
        self.assertEqual((letters(row), letters(other)), before)

    def test_the_greatest_rows(self):
        row = Row("a", "b", "a") * (SIZE // 3)
        self.assertEqual(row.size, SIZE - 1)
        row = row + Row("c")
        self.assertEqual((row.size, row[SIZE - 1], row[SIZE - 2], row[SIZE // 2]), (SIZE, "c", "a", "a"))
        self.equal(row.part(1, SIZE - 1), Row("b", "a", "a") * (SIZE // 3 - 1) + Row("b", "a", "c"))
        self.equal(row.part(SIZE - 3, 3), Row("b", "a", "c"))
        self.assertEqual(list(row.listed(SIZE - 2)), ["a", "c"])
        self.assertEqual(list(row.listed(SIZE)), [])
        self.assertEqual(row.common(Row("a", "b", "a") * (SIZE // 3 - 1)), SIZE - 4)
        self.assertEqual(row.common(Row("a", "b", "a") * (SIZE // 3)), SIZE - 1)


if __name__ == "__main__":
    unittest.main()
