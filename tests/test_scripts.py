"""onestroke/weaving.py and onestroke/scripts.py: entries that are folded all together, against sums of rows."""

import unittest

from onestroke.bodies import Body, Go, Say
from onestroke.books import Book
from onestroke.patterns import times_in
from onestroke.playing import Play, Stream
from onestroke.rows import Row, letters, row_of
from onestroke.scripts import EMPTY, Script
from onestroke.strands import rows_of
from onestroke.strokes import outcome_of
from test_great import great_row
from test_time import growing_letters
import plain

NUMBERS = (1, 1, 1, 2, 3, 4, 5, 6, 7, 8, 9, 20, 10 ** 9, 10 ** 9 + 1)


def some_nodes(draw):
    """Words, and entries of entries ahead of them."""
    nodes = list(draw.choice((("a",), ("a", "b"), ("b", "a", "c"), plain.WORDS)))
    for _ in range(draw.randint(1, 12)):
        nodes.append(tuple((draw.randrange(len(nodes)), draw.choice(NUMBERS)) for _ in range(draw.randint(1, 5))))
    return nodes


def summed(nodes):
    """The row of each entry, as a sum of rows."""
    rows = []
    for entry in nodes:
        row = Row(entry) if isinstance(entry, str) else Row()
        for index, times in entry if isinstance(entry, tuple) else ():
            row = row + rows[index] * times
        rows.append(row)
    return rows


class Scripts(unittest.TestCase):

    def same(self, found, expected):
        self.assertEqual(letters(found), letters(expected))
        self.assertEqual(found.size, expected.size)
        self.assertTrue(found == expected)

    def test_drawn_entries(self):
        draw = plain.drawing(131)
        for _ in range(1500):
            nodes = some_nodes(draw)
            rows = summed(nodes)
            wanted = [draw.randrange(len(nodes)) for _ in range(draw.randint(1, 4))]
            for index, row in zip(wanted, rows_of(nodes, wanted)):
                self.same(row, rows[index])

    def test_small_powers(self):
        for words in ("a", "ab", "ba", "aba", "abc", "cba", "abab", "aab", "abb", "bacab", "abacaba", "aabbaabb"):
            for times in range(1, 12):
                for more in range(1, 9):
                    nodes = ["a", "b", "c", tuple(("abc".index(word), 1) for word in words), ((3, times),), ((4, more), (0, 1), (4, more))]
                    expected = Row.of(list(words) * times)
                    self.same(rows_of(nodes, [4])[0], expected)
                    self.same(rows_of(nodes, [5])[0], expected * more + Row("a") + expected * more)

    def test_letters_of_rows(self):
        draw = plain.drawing(132)
        for _ in range(100):
            row = great_row(draw)
            entries = letters(row)
            found = rows_of(entries, list(range(len(entries))))
            self.same(found[-1], row)
            self.assertEqual([one.size for one in found], [one.size for one in summed(entries)])
        entries = growing_letters(201)
        self.same(rows_of(entries, [len(entries) - 1])[0], row_of(entries))

    def test_rows_of_many_levels_that_are_pressed(self):
        book = Book("m", [], {("m", "a"): Body(Say("x")), ("m", "b"): Body(Say("y"), Go("n")), ("n", "b"): Body(Say("y"), Go("m"))})
        book["n", "a"] = Body(Say("x"))
        entries = growing_letters(401)
        found = outcome_of(book, "m", Stream(entries, len(entries) - 1, None))
        self.assertEqual(letters(found.row), ["x", "y"] + entries[2:])
        many = times_in(found.row, ["y"])
        self.assertEqual(found.state, "mn"[many % 2])
        # All levels are gone through without any recursion.
        deep = growing_letters(8001)
        play = Play(deep, book)
        self.assertIsNone(play.finish(play.entered(len(deep) - 1, "m")))

    def test_nothing(self):
        self.assertEqual(rows_of([], [EMPTY, EMPTY]), [Row(), Row()])
        self.assertEqual(rows_of(["a", "b"], [EMPTY, 1, EMPTY]), [Row(), Row("b"), Row()])
        self.assertEqual(rows_of(["a", "b"], []), [])

    def test_scripts_write_each_entry_once(self):
        script = Script()
        one, two = script.written("a"), script.written("b")
        self.assertEqual(script.written("a"), one)
        pair = script.summed([(one, 1), (two, 2), (EMPTY, 5), (two, 1), (one, 0)])
        self.assertEqual(script.nodes, ["a", "b", ((0, 1), (1, 3))])
        self.assertEqual(script.summed([(one, 1), (two, 3)]), pair)
        self.assertEqual(script.summed([(pair, 1)]), pair)
        self.assertEqual(script.summed([(EMPTY, 3), (pair, 0)]), EMPTY)
        many = script.summed([(pair, 7)])
        self.assertEqual(script.nodes[many], ((pair, 7),))
        self.assertEqual(script.summed([(many, 10 ** 9)]), script.written(((pair, 7 * 10 ** 9),)))


if __name__ == "__main__":
    unittest.main()
