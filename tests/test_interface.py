"""The interface of the modules: names, where they are defined, arguments; and the examples of the document."""

import inspect
import unittest

from onestroke import (
    boards, bodies, books, certain, comparing, desks, errors, goals, limits, patterns, pressing, rows, sites, smallest, strokes)
from onestroke.bodies import Body, Go, Press, Say, Times
from onestroke.books import Book, Chain
from onestroke.rows import Row, is_letters, letters, row_of
from onestroke.strokes import Ends, Never

METHODS = {
    "part": ["self", "start", "many"], "common": ["self", "other"], "starts_with": ["self", "other"],
    "without": ["self", "beginning"], "listed": ["self", "start"],
}
FUNCTIONS = {"letters": ["row"], "is_letters": ["value"], "row_of": ["letters"]}

# The arguments of functions, classes and methods of the other modules, as the document writes them.
ARGUMENTS = {
    patterns: {"times_in": "(row, pattern)", "place_of": "(row, pattern, index=0)", "places": "(row, pattern, start=0)"},
    bodies: {
        "Say": "(command)", "Press": "(key)", "Go": "(mode)", "Times": "(number, *items)", "Times.of": "(number, items)",
        "Body": "(*items)", "Body.of": "(items)", "Body.read": "(text)", "Body.text": "(self)", "Say.text": "(self)",
        "Press.text": "(self)", "Go.text": "(self)", "Times.text": "(self)",
    },
    books: {
        "Book": "(first, rest=(), bodies=None)", "Book.take": "(self, mode, key)", "Book.set_first": "(self, mode)",
        "Book.set_rest": "(self, modes)", "Book.copied": "(self)", "Book.text": "(self)", "Book.read": "(text)",
        "Chain": "(*books)", "Chain.of": "(books)",
    },
    strokes: {
        "Ends": "(row, state)", "Never": "(front, ring)", "Outcome.command_at": "(self, index)",
        "Outcome.parting": "(self, other)", "stroke": "(system, state, key)", "loop_of": "(book, mode, key)",
    },
    pressing: {
        "first_state": "(system)", "states": "(system)", "is_rest": "(system, state)", "run": "(system, pressed, state=None)",
        "counts": "(system, pressed)", "endless_row": "(system)", "row_to": "(system, state)",
    },
    comparing: {
        "are_alike": "(one, other)", "parted": "(one, other)", "delays": "(one, other)", "is_delays": "(one, other, value)",
    },
    certain: {
        "alive": "(system)", "certain": "(system)", "certificate": "(system)", "is_certificate": "(system, value)",
    },
    smallest: {
        "smallest": "(system)", "Small.step": "(self, number, key)", "Small.commands": "(self, pressed)", "apart": "(system)",
    },
    goals: {
        "keys_for": "(system, goal)", "count_rows": "(system, many)", "fewest": "(system, many)", "most": "(system, many)",
    },
    boards: {
        "Board": "(system)", "Board.press": "(self, *keys)", "Board.press_row": "(self, row)", "NotedBoard": "(system)",
        "NotedBoard.press": "(self, *keys)", "NotedBoard.press_row": "(self, row)",
    },
    sites: {
        "Site": "(book, *, ending=False, like=None, most=None)", "LoggedSite": "(book, *, ending=False, like=None, most=None)",
        "Site.take": "(self, mode, key)", "Site.set_first": "(self, mode)", "Site.set_rest": "(self, modes)", "Site.text": "(self)",
        "Site.undo": "(self, count=1)", "Site.redo": "(self, count=1)", "Site.trial": "(self)", "Site.attempt": "(self, action)",
        "Site.tried": "(self, action)", "Site.__call__": "(self, pressed)",
    },
    desks: {
        "Desk": "(site)", "Desk.run": "(self, line)", "Desk.__call__": "(self, line)", "answers": "(site, lines)",
    },
}

# What the document lists for each class, which stands in the class itself.
OWN = {
    smallest.Small: "head size rest bound step commands __eq__",
    boards.Board: "press press_row state handed ahead is_alive", boards.NotedBoard: "noted",
    sites.Site: "book first rest strokes text __len__ __contains__ __getitem__ __setitem__ __call__ __ior__ take set_first set_rest undo redo"
                " undoable redoable trial attempt tried depth", sites.LoggedSite: "log",
    desks.Desk: "run __call__",
    books.Book: "first rest modes bound strokes __getitem__ __setitem__ take set_first set_rest __contains__ __len__ copied __eq__ __iter__ __or__"
                " __ior__ text read", books.Chain: "of books bound __add__ __eq__",
    bodies.Body: "of entries depth __len__ __getitem__ __eq__ __iter__ text read", bodies.Times: "of __eq__ text", bodies.Say: "__eq__ text",
    bodies.Press: "__eq__ text", bodies.Go: "__eq__ text",
    strokes.Ends: "row state is_end command_at parting __eq__", strokes.Never: "front ring is_end command_at parting __eq__",
    rows.Row: "of size words __getitem__ __add__ __mul__ __rmul__ __eq__ part common starts_with without listed __iter__",
}

PROPERTIES = {
    smallest.Small: "head size rest bound", boards.Board: "state handed ahead is_alive", boards.NotedBoard: "noted",
    sites.Site: "book first rest strokes undoable redoable depth", sites.LoggedSite: "log",
}


def signature_of(found):
    """The signature, without the annotations that there are none of."""
    return str(inspect.signature(found))


class Interface(unittest.TestCase):

    def test_methods_stand_in_the_class(self):
        for name, arguments in METHODS.items():
            method = Row.__dict__[name]
            self.assertEqual(list(inspect.signature(method).parameters), arguments, name)
        self.assertIsInstance(Row.__dict__["of"], classmethod)
        self.assertEqual(list(inspect.signature(Row.of).parameters), ["words"])
        for name in ("size", "words"):
            self.assertIsInstance(Row.__dict__[name], property, name)
        for name in ("__init__", "__getitem__", "__iter__", "__add__", "__mul__", "__rmul__", "__eq__"):
            self.assertIn(name, Row.__dict__)

    def test_all_is_defined_in_its_file(self):
        for name, arguments in FUNCTIONS.items():
            function = getattr(rows, name)
            self.assertEqual(function.__module__, "onestroke.rows")
            self.assertEqual(list(inspect.signature(function).parameters), arguments, name)
        self.assertEqual(Row.__module__, "onestroke.rows")

    def test_arguments_as_they_are_written(self):
        for module, names in ARGUMENTS.items():
            for name, arguments in names.items():
                found = module
                for part in name.split("."):
                    found = getattr(found, part)
                self.assertEqual(signature_of(found), arguments, name)
                self.assertEqual(found.__module__, module.__name__)

    def test_what_is_listed_for_a_class_stands_in_it(self):
        for made, names in OWN.items():
            for name in names.split():
                self.assertIn(name, vars(made), (made, name))
        for made, names in PROPERTIES.items():
            for name in names.split():
                self.assertIsInstance(vars(made)[name], property, (made, name))
        self.assertTrue(issubclass(boards.NotedBoard, boards.Board) and issubclass(sites.LoggedSite, sites.Site))

    def test_errors_and_limits(self):
        expected = {
            ValueError: "InvalidWords InvalidItem InvalidText InvalidMode InvalidStroke InvalidBodies InvalidPattern InvalidPressed NotBeginning Clash"
                        " CommandError", TypeError: "NotAnItem NotABody NotABook", LookupError: "OutOfRange UnknownStroke UnknownState",
            OverflowError: "TooMany TooFew TooDeep TooLong", RuntimeError: "NeverEnds Unlike Endless TooBig InTrial"}
        for base, names in expected.items():
            for name in names.split():
                self.assertEqual(getattr(errors, name).__bases__, (base,))
        found = {name: value for name, value in vars(limits).items() if name.isupper()}
        self.assertEqual(found, {
            "MODES": 6, "KEYS": 6, "ITEMS": 6, "DEPTH": 2, "NUMBER": 10 ** 9, "BOOKS": 3, "STATES": 36, "SIZE": 10 ** 4000, "PATTERN": 8, "GOAL": 200})

    def test_places_is_a_generator(self):
        self.assertTrue(inspect.isgenerator(patterns.places(Row("a"), ["a"])))
        self.assertTrue(inspect.isgenerator(Row("a").listed()))

    def test_methods_without_a_documented_result(self):
        book = Book("m", [], {("m", "k"): Body()})
        self.assertIsNone(book.set_first("n"))
        self.assertIsNone(book.set_rest(["n"]))
        self.assertIsNone(book.take("m", "k"))
        site = sites.Site(Book("m", [], {("m", "k"): Body()}))
        self.assertIsNone(site.set_first("n"))
        self.assertIsNone(site.set_rest(["n"]))
        self.assertIsNone(site.take("m", "k"))
        self.assertIsNone(site.undo())
        self.assertIsNone(site.redo())

    def test_kinds_of_values(self):
        book = Book("m", ["n"], {("m", "k"): Body(Say("x"))})
        for value, kind in (
            (Body().entries, tuple), (Body().depth, int), (len(Body()), int), (Body().text(), str), (Say("a").text(), str),
            (Times(2).body, Body), (book.first, str), (book.rest, tuple), (book.modes, tuple), (book.bound, tuple),
            (book.strokes, tuple), (book.text(), str), (book.copied(), Book), (book | book, Book), (book + book, Chain),
            ((book + book).books, list), ((book + book).bound, tuple), (("m", "k") in book, bool), (book == book, bool),
            (Go("a") == Press("a"), bool), (patterns.times_in(Row("a"), ["a"]), int), (strokes.stroke(book, "m", "k"), Ends),
            (strokes.stroke(book, "m", "k").is_end, bool), (Never(Row(), Row("a")).command_at(5), str),
            (Ends(Row("a"), "m").parting(Never(Row(), Row())), int),
            (pressing.first_state(book), str), (pressing.first_state(book + book), tuple), (pressing.states(book), list),
            (pressing.is_rest(book, "m"), bool), (pressing.run(book, []), Ends), (pressing.counts(book, []), bool),
            (pressing.row_to(book, "m"), list), (comparing.are_alike(book, book), bool), (comparing.delays(book, book), dict),
            (comparing.is_delays(book, book, {}), bool), (certain.alive(book), list), (certain.certain(book), dict),
            (certain.certificate(book), dict), (certain.is_certificate(book, {}), bool), (smallest.smallest(book), smallest.Small),
            (smallest.smallest(book).head, Row), (smallest.smallest(book).size, int), (smallest.smallest(book).rest, tuple),
            (smallest.smallest(book).bound, tuple), (smallest.apart(book), dict), (goals.count_rows(book, 3), int),
            (boards.Board(book).press("k"), Row), (boards.Board(book).press_row(Row()), Row), (boards.Board(book).is_alive, bool),
            (boards.Board(book).handed, Row), (boards.Board(book).ahead, Row), (boards.NotedBoard(book).noted, Row), (sites.Site(book).book, Book),
            (sites.Site(book).strokes, tuple), (sites.Site(book).rest, tuple), (sites.Site(book).undoable, int), (sites.Site(book).redoable, int),
            (sites.Site(book).depth, int), (sites.LoggedSite(book).log, tuple), (sites.Site(book)([]), Ends), (desks.Desk(sites.Site(book))("book"), str),
            (desks.answers(sites.Site(book), ["book"]), list),
        ):
            self.assertIs(type(value), kind)

    def test_arguments_by_name(self):
        row = Row.of(words=["a", "b", "c"])
        self.assertEqual(row.part(start=1, many=2), Row("b", "c"))
        self.assertEqual(row.common(other=Row("a", "c")), 1)
        self.assertTrue(row.starts_with(other=Row("a")))
        self.assertEqual(row.without(beginning=Row("a")), Row("b", "c"))
        self.assertEqual(list(row.listed(start=2)), ["c"])
        self.assertEqual(letters(row=Row("a")), ["a"])
        self.assertTrue(is_letters(value=["a"]))
        self.assertEqual(row_of(letters=["a"]), Row("a"))

    def test_examples(self):
        self.assertEqual(
            letters(Row("x", "y") * 2 + Row("x")),
            ["x", "y", ((0, 1), (1, 1)), ((0, 1), (1, 1), (0, 1)), ((2, 1), (3, 1))])
        self.assertEqual(letters(10 ** 9 * Row("x")), ["x", ((0, 10 ** 9),)])
        self.assertEqual((10 ** 9 * Row("x", "y")).size, 2000000000)
        self.assertEqual((Row("x") * 5 + Row("y")).common(Row("x") * 7), 5)
        self.assertEqual(
            letters(Row("b", "a", "c", "a")), ["b", ((0, 1),), "a", "c", ((2, 1), (3, 1), (2, 1)), ((1, 1), (4, 1))])


if __name__ == "__main__":
    unittest.main()
