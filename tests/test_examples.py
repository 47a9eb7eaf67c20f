"""The examples of the document, as they are written there."""

import unittest

from onestroke.bodies import Body, Go, Press, Say, Times
from onestroke.books import Book
from onestroke.certain import certain
from onestroke.pressing import counts, row_to, run
from onestroke.rows import Row, letters
from onestroke.smallest import apart, smallest
from onestroke.strokes import Ends, Never, loop_of, stroke

BOOK = """Book("m", ["m"], {("m", "k"): Body(Go("n")), ("n", "a"): Body(Say("x"), Say("y"), Go("m")), ("n", "b"): Body(Say("x"), Say("z"), Go("m"))})"""
ONE = """Book("m", ["m"], {("m", "a"): Body(Say("y"), Press("b")), ("m", "b"): Body(Say("x"), Press("b"))})"""

# What is asked, and the answer.
EXAMPLES = (
    ("""[letters(Row("x", "y") * 2 + Row("x")), (10 ** 9 * Row("x", "y")).size, (Row("x") * 5 + Row("y")).common(Row("x") * 7), """
     """letters(Row("b", "a", "c", "a"))]""",
     """[['x', 'y', ((0, 1), (1, 1)), ((0, 1), (1, 1), (0, 1)), ((2, 1), (3, 1))], 2000000000, 5, """
     """['b', ((0, 1),), 'a', 'c', ((2, 1), (3, 1), (2, 1)), ((1, 1), (4, 1))]]"""),
    ("""[Body(Say("x"), Times(3, Press("a"), Go("n")), Press("b")).text(), Body.read("2(3(!x)) a").depth, len(Body())]""", """['!x 3(a @n) b', 2, 0]"""),
    ("""[stroke(one, "m", "a") == Never(Row("y"), Row("x")), loop_of(one, "m", "a"), stroke(one, "m", "c") == Ends(Row(), "m")]""",
     """[True, (('m', 'a'), ('m', 'b'), ('m', 'b')), True]"""),
    ("""[run(book, ["k", "a", "k", "b"]).row == Row("x", "y", "x", "z"), counts(book, ["k"]), run(book, Row("k", "a") * 10 ** 9).row.size, """
     """row_to(book, "n")]""", """[True, False, 2000000000, ['k']]"""),
    ("""[letters(certain(book)["n"]), letters(certain(book)["m"])]""", """[['x'], []]"""),
    ("""[small.size, small.rest, letters(small.step(0, "k")[0]), letters(small.step(1, "a")[0]), small.step(0, "a")[1], apart(book)]""",
     """[2, (0,), ['x'], ['y'], 0, {(0, 1): []}]"""),
    ("""[letters(Row("x", "y", "x", "y", "x")), letters(Row("x") * 10 ** 9)]""",
     """[['x', 'y', ((0, 1), (1, 1)), ((0, 1), (1, 1), (0, 1)), ((2, 1), (3, 1))], ['x', ((0, 1000000000),)]]"""),
)


class Examples(unittest.TestCase):

    def test_examples(self):
        names = {
            "Body": Body, "Go": Go, "Press": Press, "Say": Say, "Times": Times, "Book": Book, "certain": certain, "counts": counts, "row_to": row_to,
            "run": run, "Row": Row, "letters": letters, "apart": apart, "Ends": Ends, "Never": Never, "loop_of": loop_of, "stroke": stroke}
        names["book"], names["one"] = eval(BOOK, names), eval(ONE, names)
        names["small"] = smallest(names["book"])
        for asked, answer in EXAMPLES:
            self.assertEqual(repr(eval(asked, names)), answer)


if __name__ == "__main__":
    unittest.main()
