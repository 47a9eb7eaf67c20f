"""The interface of the modules: names, where they are defined, arguments; and the examples of the document."""

import inspect
import unittest

from onestroke import bodies, books, patterns, rows, strokes
from onestroke.bodies import Body, Go, Press, Say, Times
from onestroke.books import Book, Chain
from onestroke.rows import Row, is_letters, letters, row_of
from onestroke.strokes import Ends, Never

METHODS = {
    "part": ["self", "start", "many"], "common": ["self", "other"], "starts_with": ["self", "other"],
    "without": ["self", "beginning"], "listed": ["self", "start"],
}
FUNCTIONS = {"letters": ["row"], "is_letters": ["value"], "row_of": ["letters"]}

# The arguments of functions, classes and methods of the other modules, as the document writes them.
ARGUMENTS = {
    patterns: {"times_in": "(row, pattern)", "place_of": "(row, pattern, index=0)", "places": "(row, pattern, start=0)"},
    bodies: {
        "Say": "(command)", "Press": "(key)", "Go": "(mode)", "Times": "(number, *items)", "Times.of": "(number, items)",
        "Body": "(*items)", "Body.of": "(items)", "Body.read": "(text)", "Body.text": "(self)", "Say.text": "(self)",
        "Press.text": "(self)", "Go.text": "(self)", "Times.text": "(self)",
    },
    books: {
        "Book": "(first, rest=(), bodies=None)", "Book.take": "(self, mode, key)", "Book.set_first": "(self, mode)",
        "Book.set_rest": "(self, modes)", "Book.copied": "(self)", "Book.text": "(self)", "Book.read": "(text)",
        "Chain": "(*books)", "Chain.of": "(books)",
    },
    strokes: {
        "Ends": "(row, state)", "Never": "(front, ring)", "Outcome.command_at": "(self, index)",
        "Outcome.parting": "(self, other)", "stroke": "(system, state, key)", "loop_of": "(book, mode, key)",
    },
}


class Interface(unittest.TestCase):

    def test_methods_stand_in_the_class(self):
        for name, arguments in METHODS.items():
            method = Row.__dict__[name]
            self.assertEqual(list(inspect.signature(method).parameters), arguments, name)
        self.assertIsInstance(Row.__dict__["of"], classmethod)
        self.assertEqual(list(inspect.signature(Row.of).parameters), ["words"])
        for name in ("size", "words"):
            self.assertIsInstance(Row.__dict__[name], property, name)
        for name in ("__init__", "__getitem__", "__iter__", "__add__", "__mul__", "__rmul__", "__eq__"):
            self.assertIn(name, Row.__dict__)

    def test_all_is_defined_in_its_file(self):
        for name, arguments in FUNCTIONS.items():
            function = getattr(rows, name)
            self.assertEqual(function.__module__, "onestroke.rows")
            self.assertEqual(list(inspect.signature(function).parameters), arguments, name)
        self.assertEqual(Row.__module__, "onestroke.rows")

    def test_arguments_as_they_are_written(self):
        for module, names in ARGUMENTS.items():
            for name, arguments in names.items():
                found = module
                for part in name.split("."):
                    found = getattr(found, part)
                self.assertEqual(str(inspect.signature(found)), arguments, name)
                self.assertEqual(found.__module__, module.__name__)

    def test_places_is_a_generator(self):
        self.assertTrue(inspect.isgenerator(patterns.places(Row("a"), ["a"])))
        self.assertTrue(inspect.isgenerator(Row("a").listed()))

    def test_methods_without_a_documented_result(self):
        book = Book("m", [], {("m", "k"): Body()})
        self.assertIsNone(book.set_first("n"))
        self.assertIsNone(book.set_rest(["n"]))
        self.assertIsNone(book.take("m", "k"))

    def test_kinds_of_values(self):
        book = Book("m", ["n"], {("m", "k"): Body(Say("x"))})
        for value, kind in (
            (Body().entries, tuple), (Body().depth, int), (len(Body()), int), (Body().text(), str), (Say("a").text(), str),
            (Times(2).body, Body), (book.first, str), (book.rest, tuple), (book.modes, tuple), (book.bound, tuple),
            (book.strokes, tuple), (book.text(), str), (book.copied(), Book), (book | book, Book), (book + book, Chain),
            ((book + book).books, list), ((book + book).bound, tuple), (("m", "k") in book, bool), (book == book, bool),
            (Go("a") == Press("a"), bool), (patterns.times_in(Row("a"), ["a"]), int), (strokes.stroke(book, "m", "k"), Ends),
            (strokes.stroke(book, "m", "k").is_end, bool), (Never(Row(), Row("a")).command_at(5), str),
            (Ends(Row("a"), "m").parting(Never(Row(), Row())), int),
        ):
            self.assertIs(type(value), kind)

    def test_arguments_by_name(self):
        row = Row.of(words=["a", "b", "c"])
        self.assertEqual(row.part(start=1, many=2), Row("b", "c"))
        self.assertEqual(row.common(other=Row("a", "c")), 1)
        self.assertTrue(row.starts_with(other=Row("a")))
        self.assertEqual(row.without(beginning=Row("a")), Row("b", "c"))
        self.assertEqual(list(row.listed(start=2)), ["c"])
        self.assertEqual(letters(row=Row("a")), ["a"])
        self.assertTrue(is_letters(value=["a"]))
        self.assertEqual(row_of(letters=["a"]), Row("a"))

    def test_examples(self):
        self.assertEqual(
            letters(Row("x", "y") * 2 + Row("x")),
            ["x", "y", ((0, 1), (1, 1)), ((0, 1), (1, 1), (0, 1)), ((2, 1), (3, 1))])
        self.assertEqual(letters(10 ** 9 * Row("x")), ["x", ((0, 10 ** 9),)])
        self.assertEqual((10 ** 9 * Row("x", "y")).size, 2000000000)
        self.assertEqual((Row("x") * 5 + Row("y")).common(Row("x") * 7), 5)
        self.assertEqual(
            letters(Row("b", "a", "c", "a")), ["b", ((0, 1),), "a", "c", ((2, 1), (3, 1), (2, 1)), ((1, 1), (4, 1))])


if __name__ == "__main__":
    unittest.main()
