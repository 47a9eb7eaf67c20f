"""Texts of books [21]: written, read, and what is none."""

import unittest

from onestroke.bodies import Body, Go
from onestroke.books import Book
from onestroke.errors import InvalidText
from plaintext import book_in, fault_in_lines
from test_books import SIX, some_book
from values import ANY, refused
import plain
import plainplay

LINES = (
    "", " ", "first m", "rest", "rest m", "rest m n", "rest n m", "m a:", "m b: !x", "n a: @o", "m a: !x  !y", "m a: ",
    "m a:!x", "m a :", "first", "m a", "m: !x", "M a:", "m a: 2(!x", "m a: 1(1(1()))", "m a: 1000000001()", "z z: @y",
    "m a: a b c d e f g", "m a: a b c d e f", "first m ", " first m", "rest ", "m a: @zz", "m zz: zz", "o q: 0(@p)",
)


def plain_text(first, rest, bodies):
    """The text of a book of plain items."""
    lines = ["first " + first, " ".join(["rest"] + sorted(set(rest)))]
    for pair in sorted(bodies):
        text = plainplay.text_of(bodies[pair])
        lines.append(f"{pair[0]} {pair[1]}:" + (" " + text if text else ""))
    return "\n".join(lines)


class BookTexts(unittest.TestCase):

    def check(self, text):
        """The text is read as the plain check says."""
        index = fault_in_lines(text)
        if index is not None:
            refused(self, InvalidText, {"index": index}, lambda: Book.read(text))
            return
        book = Book.read(text)
        self.assertEqual(book.text(), text)
        first, rest, bodies = book_in(text.split("\n"))
        self.assertEqual(book, Book(first, rest, {pair: Body.read(bodies[pair]) for pair in bodies}))

    def test_drawn_books(self):
        draw = plain.drawing(81)
        for _ in range(300):
            book, first, rest, bodies = some_book(draw)
            text = plain_text(first, rest, bodies)
            self.assertEqual(book.text(), text)
            self.assertTrue(Book.read(text) == book == Book.read(text=text))
            self.assertIsNone(fault_in_lines(text))

    def test_small_texts(self):
        for text in ("first m\nrest", "first m\nrest m", "first m\nrest a b c d e", "first m\nrest\nm a:",
                     "first m\nrest\nm a: !x 2(3(@n) b)\nn b:", "first abcdefgh\nrest abcdefgh zzzzzzzz"):
            self.assertEqual(Book.read(text).text(), text)
            self.check(text)
        self.assertEqual(Book("m").text(), "first m\nrest")
        self.assertEqual(Book("m", ["n", "m"], {("n", "a"): Body(), ("m", "b"): Body(Go("n"))}).text(),
                         "first m\nrest m n\nm b: @n\nn a:")

    def test_the_number_of_the_first_wrong_line(self):
        for text, index in (
            ("", 0), ("first", 0), ("first ", 0), ("first m n", 0), ("firstm", 0), ("first M", 0), (" first m", 0), ("first  m", 0),
            ("first m ", 0), ("rest\nfirst m", 0), ("\nfirst m\nrest", 0), ("first m\r\nrest", 0), ("first abcdefghi\nrest", 0),
            ("first m", 1), ("first m\n", 1), ("first m\nrest ", 1), ("first m\nrest  m", 1), ("first m\nrest n m", 1),
            ("first m\nrest m m", 1), ("first m\nm a:", 1), ("first m\nfirst m", 1), ("first m\nrestm", 1), ("first m\n\nrest", 1),
            ("first m\nrest a b c d e f", 1), ("first m\nrest a b c d e m n", 1), ("first m\nrest\r", 1),
            ("first m\nrest\n", 2), ("first m\nrest\n\n", 2), ("first m\nrest\nrest", 2), ("first m\nrest\nm a: ", 2),
            ("first m\nrest\nm a", 2), ("first m\nrest\nm a:!x", 2), ("first m\nrest\nm a:  !x", 2), ("first m\nrest\nma:", 2),
            ("first m\nrest\nm a : !x", 2), ("first m\nrest\nm  a:", 2), ("first m\nrest\n m a:", 2), ("first m\nrest\nm a b:", 2),
            ("first m\nrest\nm a: !x\nm a: !x", 3), ("first m\nrest\nm b:\nm a:", 3), ("first m\nrest\nn a:\nm b:", 3),
            ("first m\nrest\nm a: !x:", 2), ("first m\nrest\nm a: a b c d e f g", 2), ("first m\nrest\nm a: 1(1(1()))", 2),
            ("first m\nrest\nm a: 1000000001()", 2), ("first m\nrest\nm a:\nm b: 01()", 3), ("first m\nrest\nm a:\n\nm b:", 3),
            ("first m\nrest\nm a:\nm b:\n", 4), ("first m\nrest\nM a:\nm b", 2),
        ):
            self.assertEqual(fault_in_lines(text), index, text)
            refused(self, InvalidText, {"index": index}, lambda: Book.read(text))

    def test_a_seventh_mode_and_a_seventh_key(self):
        head = "first a\nrest b c d"
        self.check(head + "\na k: @e @f")
        for text, index in (
            (head + "\na k: @e @f @g", 2), (head + "\na k: @e @f\na l: @g", 3), (head + "\na k: @e\nf k:\ng k:", 4),
            (head + "\na k: 0(@e @f)\nb k:\nb l: 0(0(@g))\nb m:", 4), ("first g\nrest " + " ".join(SIX), 1),
        ):
            self.assertEqual(fault_in_lines(text), index, text)
            refused(self, InvalidText, {"index": index}, lambda: Book.read(text))
        lines = [head] + [f"a {key}:" for key in SIX]
        self.assertEqual(Book.read("\n".join(lines)).bound, SIX)
        refused(self, InvalidText, {"index": 8}, lambda: Book.read("\n".join(lines + ["a g:"])))
        refused(self, InvalidText, {"index": 9}, lambda: Book.read("\n".join(lines + ["b a: g", "b g:", "b h:"])))

    def test_lines_that_are_changed(self):
        draw = plain.drawing(82)
        for _ in range(120):
            lines = some_book(draw)[0].text().split("\n")
            for at in range(len(lines)):
                other = draw.randrange(len(lines))
                self.check("\n".join(lines[:at]))
                self.check("\n".join(lines[:at] + lines[at + 1:]))
                self.check("\n".join(lines[:at] + [lines[at]] + lines[at:]))
                self.check("\n".join(lines[:at] + [draw.choice(LINES)] + lines[at:]))
                self.check("\n".join(lines[:at] + [draw.choice(LINES)] + lines[at + 1:]))
                exchanged = list(lines)
                exchanged[at], exchanged[other] = exchanged[other], exchanged[at]
                self.check("\n".join(exchanged))

    def test_signs_that_are_changed(self):
        draw = plain.drawing(83)
        for _ in range(60):
            text = some_book(draw)[0].text()
            for _ in range(60):
                at = draw.randrange(len(text) + 1)
                sign = draw.choice(" \n:!@()0129abmz\rA~")
                self.check(text[:at])
                self.check(text[:at] + sign + text[at:])
                self.check(text[:at] + text[at + 1:])
                self.check(text[:at] + sign + text[at + 1:])

    def test_many_lines(self):
        head = ["first m", "rest"]
        lines = [f"{mode} {key}: 1000000000(1000000000(@a !x) {key})" for mode in SIX[:5] for key in SIX]
        self.assertEqual(len(Book.read("\n".join(head + lines))), 30)
        refused(self, InvalidText, {"index": 32}, lambda: Book.read("\n".join(head + lines + lines * 100)))
        deep = "m a: " + "1(" * 5000 + ")" * 5000
        refused(self, InvalidText, {"index": 3}, lambda: Book.read("\n".join(head + ["l a:", deep, deep])))

    def test_values_that_are_no_strings(self):
        for value in ANY:
            if not isinstance(value, str):
                refused(self, InvalidText, {"index": 0}, lambda: Book.read(value))


if __name__ == "__main__":
    unittest.main()
