"""Texts of bodies [20]: written, read, and what is none."""

import itertools
import unittest

from onestroke.bodies import Body
from onestroke.errors import InvalidItem, InvalidText, TooDeep, TooMany
from plaintext import first_error, is_written, items_in, longest_beginning
from values import ANY, refused
import plain
import plainplay

SIGNS = " !@()019az"
OTHERS = ("A", "\n", "\r", "\t", "-", "+", ":", ",", ".", "~", "_", "#", "[")


def great_items(draw, depth, most):
    """Plain items with numbers and words of any length that is allowed, and somewhat beyond the limits of bodies."""
    items = []
    for _ in range(draw.randint(0, most)):
        word = "".join(draw.choice("abcxyz") for _ in range(draw.choice((1, 1, 2, 7, 8))))
        if depth and draw.random() < 0.4:
            number = draw.choice((0, 1, 9, 10, 123, 10 ** 9 - 1, 10 ** 9, 10 ** 9 + 1, 10 ** 10 - 1))
            items.append(("times", number, great_items(draw, depth - 1, most)))
        else:
            items.append((draw.choice(("say", "press", "go")), word))
    return items


class Texts(unittest.TestCase):

    def check(self, text):
        """The text is read as the plain check says."""
        if not is_written(text):
            refused(self, InvalidText, {"index": longest_beginning(text)}, lambda: Body.read(text))
            return
        items = items_in(text)
        error = first_error(items)
        if error is not None:
            refused(self, error[0], error[1], lambda: Body.read(text))
            return
        body = Body.read(text)
        self.assertEqual(body.text(), text)
        self.assertTrue(body == plainplay.body_of(items), text)

    def test_drawn_bodies(self):
        draw = plain.drawing(61)
        for _ in range(500):
            items = plainplay.some_items(draw, ["m", "abcdefgh"], ["a", "bc"], plainplay.COMMANDS, 2)
            text = plainplay.text_of(items)
            body = plainplay.body_of(items)
            self.assertEqual(body.text(), text)
            self.assertTrue(Body.read(text) == body == Body.read(text=text))

    def test_drawn_texts_beyond_the_limits(self):
        draw = plain.drawing(62)
        for _ in range(800):
            self.check(plainplay.text_of(great_items(draw, draw.randint(0, 4), draw.choice((1, 2, 3, 7)))))

    def test_all_short_texts(self):
        for size in range(7):
            for signs in itertools.product(" !()1a", repeat=size):
                self.check("".join(signs))
        for signs in itertools.product("(0)@ ", repeat=5):
            self.check("".join(signs))

    def test_texts_near_to_written_ones(self):
        draw = plain.drawing(63)
        for _ in range(60):
            text = plainplay.text_of(great_items(draw, 2, 3))
            for at in range(len(text) + 1):
                self.check(text[:at])
                self.check(text[at:])
                self.check(text[:at] + text[at + 1:])
                for sign in SIGNS + draw.choice(OTHERS):
                    self.check(text[:at] + sign + text[at:])
                    self.check(text[:at] + sign + text[at + 1:])
                other = draw.randint(at, len(text))
                self.check(text[:at] + text[other:])
                self.check(text[:other] + text[at:])

    def test_wrong_texts_and_where(self):
        for text, index in (
            (" ", 0), ("a ", 2), (" a", 0), ("a  b", 2), ("!", 1), ("@", 1), ("!!a", 1), ("! a", 1), ("!@a", 1), ("a!", 1),
            ("!1", 1), ("1", 1), ("12", 2), ("1 (a)", 1), ("1(", 2), ("1( a)", 2), ("1(a )", 4), ("1(a", 3), ("1(a))", 4),
            (")", 0), ("(", 0), ("()", 0), ("a)", 1), ("a(b)", 1), ("1()a", 3), ("1()1()", 3), ("1() ", 4), ("1(a) b)", 6),
            ("00()", 1), ("01(a)", 1), ("0(a", 3), ("1234567890", 10), ("12345678901(a)", 10), ("9999999999", 10),
            ("abcdefghi", 8), ("!abcdefghi", 9), ("@abcdefghi a", 9), ("a abcdefghij", 10), ("aB", 1), ("A", 0), ("a\n", 1),
            ("\n", 0), ("a\nb", 1), ("a\tb", 1), ("a,b", 1), ("1(\n)", 2), ("a1", 1), ("1a", 1), ("-1(a)", 0), ("1.0(a)", 1),
        ):
            self.assertEqual(longest_beginning(text), index, text)
            refused(self, InvalidText, {"index": index}, lambda: Body.read(text))

    def test_the_first_error_of_the_constructors(self):
        seven = "a b c d e f g"
        for text, error, fields in (
            (seven, TooMany, {"limit": 6}), (f"1({seven})", TooMany, {"limit": 6}), ("1(1(1()))", TooDeep, {"limit": 2}),
            ("1000000001()", InvalidItem, {"field": "number"}), ("9999999999(!a)", InvalidItem, {"field": "number"}),
            # Items within a Times come before it, and items from left to right.
            (f"1000000001({seven})", InvalidItem, {"field": "number"}), (f"1(1000000001() {seven})", InvalidItem, {"field": "number"}),
            (f"1000000001(1({seven}))", TooMany, {"limit": 6}), (f"1(1(1()) {seven})", TooMany, {"limit": 6}),
            (f"1(1(1())) 1000000001() {seven}", TooDeep, {"limit": 2}),
            (f"1000000001() 1(1(1())) {seven}", InvalidItem, {"field": "number"}),
            (f"1({seven}) 1000000001()", TooMany, {"limit": 6}), ("1000000001(1(1()))", InvalidItem, {"field": "number"}),
            (f"1(1({seven} 1(1())))", TooMany, {"limit": 6}), (f"1(1(1(1000000001())))", InvalidItem, {"field": "number"}),
            # What is not written so comes first of all.
            (f"1000000001() {seven} ", InvalidText, {"index": 27}), ("1(1(1())", InvalidText, {"index": 8}),
        ):
            refused(self, error, fields, lambda: Body.read(text))
        self.assertEqual(Body.read("1000000000(1000000000())").text(), "1000000000(1000000000())")
        self.assertEqual(len(Body.read("a b c d e f")), 6)

    def test_thousands_of_parentheses(self):
        many = 5000
        refused(self, InvalidText, {"index": 2 * many}, lambda: Body.read("1(" * many))
        refused(self, InvalidText, {"index": 3 * many}, lambda: Body.read("1(" * many + ")" * many + ")"))
        refused(self, InvalidText, {"index": 3 * many - 1}, lambda: Body.read("1(" * many + ")" * (many - 1)))
        refused(self, TooDeep, {"limit": 2}, lambda: Body.read("1(" * many + ")" * many))
        refused(self, TooMany, {"limit": 6}, lambda: Body.read("1(" * many + "a b c d e f g" + ")" * many))
        refused(self, InvalidItem, {"field": "number"}, lambda: Body.read("1000000001(" * many + ")" * many))
        refused(self, TooMany, {"limit": 6}, lambda: Body.read(" ".join(["2(!a)"] * many)))
        refused(self, InvalidText, {"index": 6 * many}, lambda: Body.read("2(!a) " * many))

    def test_values_that_are_no_strings(self):
        for value in ANY:
            if not isinstance(value, str):
                refused(self, InvalidText, {"index": 0}, lambda: Body.read(value))
        self.assertEqual(Body.read(""), Body())


if __name__ == "__main__":
    unittest.main()
