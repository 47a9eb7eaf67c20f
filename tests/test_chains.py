"""onestroke/books.py [30]: chains."""

import itertools
import unittest

from onestroke.bodies import Body, Go, Press, Say
from onestroke.books import Book, Chain
from onestroke.errors import NotABook, TooFew, TooMany
from test_books import some_book, told
from values import ANY, refused
import plain


def with_modes(many, key="k"):
    """A book with so many modes."""
    return Book("a", list("abcdef"[:many]), {("a", key): Body(Say("x"))})


class Chains(unittest.TestCase):

    def test_made_in_all_ways(self):
        one, two, three = with_modes(1, "k"), with_modes(2, "l"), with_modes(3, "m")
        for made in (Chain(one, two), Chain.of([one, two]), Chain.of((one, two)), Chain.of(books=[one, two]), one + two):
            self.assertEqual(made, Chain(one, two))
            self.assertEqual(made.books, [one, two])
            self.assertEqual(made.bound, ("k",))
        for made in (Chain(one, two, three), Chain.of([one, two, three]), one + two + three, one + (two + three),
                     Chain(one, two) + three, one + Chain(two, three)):
            self.assertIs(type(made), Chain)
            self.assertEqual(made, Chain(one, two, three))
            self.assertEqual(made.books, [one, two, three])
            self.assertEqual(made.bound, ("k",))
        self.assertEqual(Chain(three, one).bound, ("m",))
        self.assertIs(type(one + two), Chain)
        self.assertEqual((one + one).books, [one, one])

    def test_adding_in_place_gives_a_chain(self):
        book = one = with_modes(1)
        book += with_modes(2)
        self.assertIs(type(book), Chain)
        self.assertEqual(one, with_modes(1))
        self.assertEqual(book, Chain(with_modes(1), with_modes(2)))

    def test_keys_of_the_first_book(self):
        draw = plain.drawing(91)
        for _ in range(60):
            one, two = some_book(draw, "mno")[0], some_book(draw, "mno")[0]
            chain = Chain(one, two)
            self.assertEqual(chain.bound, one.bound)
            self.assertEqual([told(book) for book in chain.books], [told(one), told(two)])

    def test_no_books(self):
        book = with_modes(2)
        for value in ANY + ([book], (book, book)):
            if isinstance(value, Book):
                continue
            for ahead in range(5):
                for behind in range(5):
                    books = [book] * ahead + [value] + [book] * behind
                    refused(self, NotABook, {"index": ahead}, lambda: Chain(*books))
                    refused(self, NotABook, {"index": ahead}, lambda: Chain.of(books + [None]))
        refused(self, NotABook, {"index": 0}, lambda: Chain(Chain(book, book), book))
        refused(self, NotABook, {"index": 1}, lambda: Chain(with_modes(6), None, with_modes(6), with_modes(6)))

    def test_too_many_and_too_few_books(self):
        for many in (4, 5, 100):
            refused(self, TooMany, {"limit": 3}, lambda: Chain(*[with_modes(1)] * many))
            refused(self, TooMany, {"limit": 3}, lambda: Chain.of([with_modes(6)] * many))
        for books in ([], [with_modes(1)], [with_modes(6)]):
            refused(self, TooFew, {"limit": 2}, lambda: Chain(*books))
            refused(self, TooFew, {"limit": 2}, lambda: Chain.of(books))
        pair, three = with_modes(1) + with_modes(1), with_modes(1) + with_modes(1) + with_modes(1)
        for action in (lambda: pair + pair, lambda: three + with_modes(1), lambda: with_modes(1) + three, lambda: three + three,
                       lambda: with_modes(6) + (with_modes(6) + with_modes(1)) + with_modes(6)):
            refused(self, TooMany, {"limit": 3}, action)

    def test_36_states(self):
        for sizes in itertools.chain(itertools.product(range(1, 7), repeat=2), itertools.product(range(1, 7), repeat=3)):
            states = 1
            for size in sizes:
                states *= size
            books = [with_modes(size) for size in sizes]
            if states <= 36:
                self.assertEqual(Chain(*books).books, books)
            else:
                refused(self, TooMany, {"limit": 36}, lambda: Chain(*books))
                refused(self, TooMany, {"limit": 36}, lambda: Chain.of(books))
                refused(self, TooMany, {"limit": 36}, lambda: books[0] + Chain(*books[1:]))
        # Modes that stand in Go items alone count as well.
        book = Book("a", [], {("a", "k"): Body(*[Go(mode) for mode in "abcdef"])})
        refused(self, TooMany, {"limit": 36}, lambda: Chain(book, book, with_modes(2)))
        self.assertEqual(len(Chain(book, book, with_modes(1)).books), 3)

    def test_copies(self):
        books = [with_modes(2), with_modes(3)]
        chain = Chain.of(books)
        before = [told(book) for book in chain.books]
        books[0]["a", "z"] = Body(Press("q"))
        books[1].set_first("b")
        books.append(None)
        self.assertEqual([told(book) for book in chain.books], before)
        self.assertEqual(chain.bound, ("k",))
        found = chain.books
        self.assertIsNot(found, chain.books)
        found[0].take("a", "k")
        found[1].set_rest([])
        found.pop()
        self.assertEqual([told(book) for book in chain.books], before)
        self.assertIs(type(chain.books), list)
        one = with_modes(1)
        chain = one + one
        one["a", "z"] = Body()
        self.assertEqual(chain.books, [with_modes(1), with_modes(1)])

    def test_equal_chains(self):
        one, two = with_modes(1), with_modes(2)
        made = [lambda: one + one, lambda: one + two, lambda: two + one, lambda: one + one + one, lambda: one + two + one]
        for at, chain in enumerate(made):
            for place, other in enumerate(made):
                self.assertIs(chain() == other(), at == place)
                self.assertIs(chain() != other(), at != place)
        for value in plain.ODD + (one, [one, one]):
            self.assertIs(Chain(one, one) == value, False)
            self.assertIs(value == Chain(one, one), False)

    def test_other_values_are_not_added(self):
        for value in plain.ODD + (Body(),):
            for system in (with_modes(1), with_modes(1) + with_modes(1)):
                with self.assertRaises(TypeError):
                    system + value
                with self.assertRaises(TypeError):
                    value + system

    def test_defined_in_its_file(self):
        self.assertEqual(Chain.__module__, "onestroke.books")
        self.assertIsInstance(vars(Chain)["of"], classmethod)
        for name in ("books", "bound"):
            self.assertIsInstance(vars(Chain)[name], property)
        self.assertTrue({"__init__", "__add__", "__eq__"} <= set(vars(Chain)))


if __name__ == "__main__":
    unittest.main()
