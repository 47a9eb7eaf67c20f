"""onestroke/books.py [21]: books."""

import itertools
import unittest

from onestroke import books
from onestroke.bodies import Body, Go, Press, Say, Times
from onestroke.books import Book
from onestroke.errors import Clash, InvalidBodies, InvalidMode, InvalidStroke, NotABody, TooMany, UnknownStroke
from values import ANY, NO_WORDS, refused
import plain
import plainplay

SIX = ("a", "b", "c", "d", "e", "f")
WRONG_WORDS = NO_WORDS + ("abcdefghi", "A", "a b", " a", "a\n")
# Values that are no list of words.
WRONG_MODES = tuple(value for value in ANY if value not in ([], ["a"]) and value != () and value != ("a",)) + (
    ["a", "B"], ("a", None), [["a"]], "ab", {"a": 1}, ["a", True])
# Values that are no tuple of two words.
WRONG_PAIRS = ANY + (
    ("a",), ("a", "b", "c"), ["a", "b"], ("a", "B"), ("A", "b"), ("a", None), (None, "b"), ("a", ["b"]), (["a"], "b"),
    ("a", ""), ("", "b"), ("abcdefghi", "b"), "ab", ("a", True), (("a", "b"),), ("a", ("b",)), slice(0, 1))


def told(book):
    """All that a book tells."""
    pairs = book.strokes
    return (book.first, book.rest, book.modes, book.bound, pairs, [book[pair].text() for pair in pairs], len(book), book.text())


def some_book(draw, modes="mnop", keys="abcd"):
    """A book with its plain bodies."""
    bodies = plainplay.some_bodies(draw, modes[:draw.randint(1, 4)], keys[:draw.randint(1, 4)], plainplay.COMMANDS)
    first = draw.choice(modes)
    rest = [draw.choice(modes) for _ in range(draw.randint(0, 5))]
    return plainplay.book_of(bodies, first, rest), first, rest, bodies


def goes_in(items):
    """The modes of the Go items of a plain body."""
    found = []
    for item in items:
        found += [item[1]] if item[0] == "go" else goes_in(item[2]) if item[0] == "times" else []
    return found


class Books(unittest.TestCase):

    def test_made_in_all_ways(self):
        body = Body(Say("x"), Press("k"))
        for book in (Book("m"), Book("m", []), Book("m", ()), Book("m", [], None), Book("m", (), {}), Book(first="m"),
                     Book(first="m", rest=[], bodies={}), Book("m", bodies=None)):
            self.assertEqual(told(book), ("m", (), ("m",), (), (), [], 0, "first m\nrest"))
        one = Book("m", ["o", "n", "o"], {("m", "k"): body})
        self.assertEqual(one, Book(bodies={("m", "k"): body}, rest=("n", "o", "n"), first="m"))
        self.assertEqual(
            told(one), ("m", ("n", "o"), ("m", "n", "o"), ("k",), (("m", "k"),), ["!x k"], 1, "first m\nrest n o\nm k: !x k"))

    def test_all_that_drawn_books_tell(self):
        draw = plain.drawing(71)
        for _ in range(300):
            book, first, rest, bodies = some_book(draw)
            modes = {first, *rest, *[mode for mode, _ in bodies]}
            for items in bodies.values():
                modes |= set(goes_in(items))
            self.assertEqual((book.first, book.rest), (first, tuple(sorted(set(rest)))))
            self.assertEqual(book.modes, tuple(sorted(modes)))
            self.assertEqual(book.bound, tuple(sorted({key for _, key in bodies})))
            self.assertEqual(book.strokes, tuple(sorted(bodies)))
            self.assertEqual(len(book), len(bodies))
            for name in ("rest", "modes", "bound", "strokes"):
                self.assertIs(type(getattr(book, name)), tuple)
            for pair in itertools.product("mnopq", "abcde"):
                self.assertIs(pair in book, pair in bodies)
                if pair in bodies:
                    self.assertTrue(book[pair] == book[pair[0], pair[1]] == plainplay.body_of(bodies[pair]))

    def test_modes_of_go_items_alone(self):
        book = Book("m", ["r"], {("n", "k"): Body(Go("o"), Times(2, Go("p"), Times(0, Go("q"))))})
        self.assertEqual(book.modes, ("m", "n", "o", "p", "q", "r"))
        self.assertEqual(book.bound, ("k",))
        # Keys are those of pairs alone.
        self.assertEqual(Book("m", [], {("m", "k"): Body(*[Press(key) for key in SIX])}).bound, ("k",))

    def test_no_first_mode(self):
        for value in WRONG_WORDS:
            for rest in ((), [None], None):
                for bodies in (None, 5):
                    refused(self, InvalidMode, {"value": value}, lambda: Book(value, rest, bodies))
            book = Book("m", ["n"])
            refused(self, InvalidMode, {"value": value}, lambda: book.set_first(value))
            self.assertEqual(book, Book("m", ["n"]))

    def test_no_rest_modes(self):
        book = Book("m", ["n"])
        for value in WRONG_MODES:
            for bodies in (None, 5, {}):
                refused(self, InvalidMode, {"value": value}, lambda: Book("m", value, bodies))
            refused(self, InvalidMode, {"value": value}, lambda: book.set_rest(value))
        refused(self, InvalidMode, {"value": (many := list(SIX) + ["g", "B"])}, lambda: Book("m", many))
        self.assertEqual(book, Book("m", ["n"]))
        self.assertEqual(Book("m", ["m"] * 2000).rest, ("m",))

    def test_no_bodies(self):
        body = Body(Say("x"))
        wrong = [value for value in ANY if value is not None and not (isinstance(value, dict) and value == {})]
        wrong += [{pair: body} for pair in WRONG_PAIRS if is_key(pair)] + [{("m", "k"): body, "a": body}]
        wrong += [{("m", "k"): value} for value in ANY if not isinstance(value, Body)] + [{("m", "k"): body, ("m", "l"): None}]
        for value in wrong:
            refused(self, InvalidBodies, {"value": value}, lambda: Book("m", [], value))
            refused(self, InvalidBodies, {"value": value}, lambda: Book("m", SIX, value))
            book = same = Book("m", [], {("m", "k"): Body()})
            with self.assertRaises(InvalidBodies) as caught:
                book |= value
            self.assertIs(caught.exception.value, value)
            self.assertIs(book, same)
            self.assertEqual(book, Book("m", [], {("m", "k"): Body()}))
        book = Book("m")
        for value in (None, Book("m")):
            with self.assertRaises(InvalidBodies) as caught:
                book |= value
            self.assertIs(caught.exception.value, value)

    def test_six_and_seven_modes(self):
        body = Body()
        ways = (
            lambda six, one: Book(one, six), lambda six, one: Book(six[0], list(six[1:]) + [one]),
            lambda six, one: Book(six[0], six[1:], {(one, "k"): body}),
            lambda six, one: Book(six[0], [], {(mode, "k"): body for mode in list(six) + [one]}),
            lambda six, one: Book(six[0], six[1:], {(six[0], "k"): Body(Go(one))}),
            lambda six, one: Book(one, [], {("a", "k"): Body(*[Go(mode) for mode in six])}),
            lambda six, one: Book(six[0], six[1:], {(six[0], "k"): Body(Times(0, Times(0, Go(one))))}),
            lambda six, one: Book(six[0], six[1:5], {("b", "k"): Body(Times(2, Go(six[5])), Go(one))}),
        )
        for way in ways:
            self.assertEqual(way(SIX, "a").modes, SIX)
            refused(self, TooMany, {"limit": 6}, lambda: way(SIX, "g"))

    def test_six_and_seven_keys(self):
        bodies = {("m", key): Body() for key in SIX}
        self.assertEqual(Book("m", [], bodies).bound, SIX)
        self.assertEqual(Book("m", [], {**bodies, ("n", "a"): Body(Press("g"))}).bound, SIX)
        refused(self, TooMany, {"limit": 6}, lambda: Book("m", [], {**bodies, ("n", "g"): Body()}))
        refused(self, TooMany, {"limit": 6}, lambda: Book("m", SIX, {**bodies, ("n", "g"): Body()}))
        book = Book("m", [], bodies)
        for mode in SIX[:5]:
            book[mode, "a"] = Body()
        for pair in (("m", "g"), ("g", "a"), ("g", "g")):
            with self.assertRaises(TooMany) as caught:
                book[pair] = Body()
            self.assertEqual(caught.exception.limit, 6)
            self.assertNotIn(pair, book)
        self.assertEqual(len(book), 11)

    def test_reading(self):
        book = Book("m", ["n"], {("m", "k"): Body(Say("x"))})
        self.assertEqual(book["m", "k"], Body(Say("x")))
        for value in WRONG_PAIRS + (("m", "l"), ("n", "k"), ("k", "m")):
            refused(self, UnknownStroke, {"value": value}, lambda: book[value])
            self.assertIs(value in book, False)
            self.assertIs(value not in book, True)

    def test_setting(self):
        book = Book("m", ["n"], {("m", "k"): Body(Say("x"))})
        book["m", "k"] = Body(Say("y"))
        book["o", "l"] = Body(Go("p"))
        self.assertEqual(book, Book("m", ["n"], {("m", "k"): Body(Say("y")), ("o", "l"): Body(Go("p"))}))
        self.assertEqual((book.modes, book.bound), (("m", "n", "o", "p"), ("k", "l")))
        before = told(book)
        for pair in WRONG_PAIRS:
            for body in (Body(), None, 5):
                with self.assertRaises(InvalidStroke) as caught:
                    book[pair] = body
                self.assertIs(caught.exception.value, pair)
        for value in ANY + ((), [Say("x")]):
            if not isinstance(value, Body):
                for pair in (("m", "k"), ("m", "l"), ("q", "l")):
                    with self.assertRaises(NotABody) as caught:
                        book[pair] = value
                    self.assertIs(caught.exception.value, value)
        for body in (Body(*[Go(mode) for mode in "abc"]), Body(Times(0, Go("a"), Times(0, Go("b"))), Go("c"))):
            with self.assertRaises(TooMany) as caught:
                book["m", "z"] = body
            self.assertEqual(caught.exception.limit, 6)
        self.assertEqual(told(book), before)

    def test_what_is_replaced_does_not_count(self):
        book = Book("a", [], {("a", "k"): Body(*[Go(mode) for mode in SIX])})
        other = Body(*[Go(mode) for mode in "ghijk"])
        book["a", "k"] = other
        self.assertEqual(book.modes, ("a", "g", "h", "i", "j", "k"))
        book |= {("a", "k"): Body(*[Go(mode) for mode in SIX])}
        self.assertEqual(book.modes, SIX)
        book.set_first("b")
        book["a", "k"] = other.read("@c")
        book.take("a", "k")
        self.assertEqual(book.modes, ("b",))
        book.set_rest(SIX)
        refused(self, TooMany, {"limit": 6}, lambda: book.set_first("g"))
        book.set_rest([])
        book.set_first("g")
        self.assertEqual(book, Book("g"))

    def test_taking(self):
        bodies = {("m", "k"): Body(Say("x")), ("n", "k"): Body(), ("n", "l"): Body()}
        book = Book("m", [], bodies)
        self.assertIsNone(book.take("n", "k"))
        self.assertIsNone(book.take(key="l", mode="n"))
        self.assertEqual(book, Book("m", [], {("m", "k"): Body(Say("x"))}))
        for mode in ANY + ("m", "n"):
            for key in ("k", "l", None, []):
                if (mode, key) != ("m", "k"):
                    with self.assertRaises(UnknownStroke) as caught:
                        book.take(mode, key)
                    self.assertIs(type(caught.exception.value), tuple)
                    self.assertIs(caught.exception.value[0], mode)
                    self.assertIs(caught.exception.value[1], key)
        self.assertEqual(len(book), 1)
        self.assertEqual(len(bodies), 3)

    def test_first_and_rest_are_set(self):
        book = Book("m", ["n"])
        self.assertIsNone(book.set_first("o"))
        self.assertIsNone(book.set_rest(["p", "o", "p"]))
        self.assertEqual(told(book)[:3], ("o", ("o", "p"), ("o", "p")))
        book.set_first(mode="m")
        book.set_rest(modes=())
        self.assertEqual(book, Book("m"))
        full = Book("a", SIX)
        refused(self, TooMany, {"limit": 6}, lambda: full.set_first("g"))
        refused(self, TooMany, {"limit": 6}, lambda: full.set_rest(["b", "c", "d", "e", "f", "g"]))
        self.assertEqual(full, Book("a", SIX))
        full.set_rest(["b", "c", "d", "e", "f", "f"])
        full.set_first("b")
        self.assertEqual(full.modes, SIX[1:])

    def test_copies(self):
        draw = plain.drawing(72)
        for _ in range(50):
            book, first, rest, bodies = some_book(draw)
            other = book.copied()
            self.assertEqual(book, other)
            self.assertIsNot(book, other)
            self.assertEqual(told(book), told(other))
            before = told(other)
            book.set_first("q")
            book.set_rest([])
            for pair in book.strokes:
                book.take(*pair)
            book["q", "q"] = Body()
            self.assertEqual(told(other), before)
            self.assertFalse(book == other)

    def test_lists_and_dicts_that_are_changed_afterwards(self):
        rest, bodies = ["n", "m"], {("m", "k"): Body(Say("x"))}
        book = Book("m", rest, bodies)
        before = told(book)
        rest.append("o")
        bodies["m", "l"] = Body()
        bodies["m", "k"] = Body()
        self.assertEqual(told(book), before)
        book |= bodies
        after = told(book)
        bodies.clear()
        self.assertEqual(told(book), after)
        modes = ["a", "b"]
        book.set_rest(modes)
        modes.append("c")
        self.assertEqual(book.rest, ("a", "b"))

    def test_equal_books(self):
        body = Body(Say("x"))
        made = [
            lambda: Book("m"), lambda: Book("n"), lambda: Book("m", ["m"]), lambda: Book("m", ["m", "n"]),
            lambda: Book("m", [], {("m", "k"): body}), lambda: Book("m", [], {("n", "k"): body}),
            lambda: Book("m", [], {("m", "l"): body}), lambda: Book("m", [], {("m", "k"): Body()}),
            lambda: Book("m", [], {("m", "k"): body, ("m", "l"): body}), lambda: Book("m", ["m"], {("m", "k"): body}),
        ]
        for at, one in enumerate(made):
            for place, other in enumerate(made):
                self.assertIs(one() == other(), at == place)
                self.assertIs(one() != other(), at != place)
        one = Book("m", [], {("m", "k"): body, ("n", "l"): Body()})
        self.assertEqual(one, Book("m", [], {("n", "l"): Body(), ("m", "k"): Body(Say("x"))}))
        for value in plain.ODD + (one.text(), {("m", "k"): body, ("n", "l"): Body()}):
            self.assertIs(one == value, False)
            self.assertIs(value == one, False)

    def test_books_are_not_iterated_over(self):
        for book in (Book("m"), Book("m", ["m"], {("m", "k"): Body()})):
            for action in (iter, list, tuple, lambda value: Book("m", value), lambda value: dict(value)):
                with self.assertRaises((TypeError, InvalidMode)):
                    action(book)
            with self.assertRaises(TypeError):
                iter(book)

    def test_defined_in_its_file(self):
        self.assertEqual((Book.__module__, books.Chain.__module__), ("onestroke.books", "onestroke.books"))
        for name in ("first", "rest", "modes", "bound", "strokes"):
            self.assertIsInstance(vars(Book)[name], property)
        self.assertIsInstance(vars(Book)["read"], classmethod)
        names = "__init__ __getitem__ __setitem__ __contains__ __len__ __iter__ __eq__ __or__ __ior__ __add__"
        self.assertTrue(set(names.split()) | {"take", "set_first", "set_rest", "copied", "text"} <= set(vars(Book)))


def is_key(value):
    """Whether a value can be a key of a dict."""
    try:
        hash(value)
    except TypeError:
        return False
    return True


class Joined(unittest.TestCase):

    def test_drawn_books(self):
        draw = plain.drawing(73)
        clashes = 0
        for _ in range(300):
            one, first, rest, bodies = some_book(draw)
            other, _, more, others = some_book(draw)
            if draw.random() < 0.7:
                for pair in list(others):
                    if pair in bodies and draw.random() < 0.9:
                        others[pair] = bodies[pair]
                other = plainplay.book_of(others, other.first, more)
            unlike = [pair for pair in sorted(bodies) if pair in others and bodies[pair] != others[pair]]
            before = told(one), told(other)
            if unlike:
                clashes += 1
                refused(self, Clash, {"mode": unlike[0][0], "key": unlike[0][1]}, lambda: one | other)
            else:
                both = one | other
                self.assertEqual(both, plainplay.book_of({**bodies, **others}, first, rest + more))
                self.assertTrue(both is not one and both is not other)
                both.set_first("q")
                both["q", "a"] = Body()
            self.assertEqual((told(one), told(other)), before)
        self.assertGreater(clashes, 50)

    def test_the_first_mode_of_the_other_is_left_out(self):
        one, other = Book("a", ["b"]), Book("c", ["d"])
        self.assertEqual(one | other, Book("a", ["b", "d"]))
        self.assertEqual((one | other).modes, ("a", "b", "d"))
        # So it does not count, either.
        self.assertEqual((Book("a", SIX) | Book("g", ["a"])).modes, SIX)
        self.assertEqual(one | one, one)

    def test_clashes_come_first_and_too_many_then(self):
        def book(modes, key, word):
            return Book(modes[0], list(modes), {(mode, key): Body(Say(word)) for mode in modes})

        refused(self, TooMany, {"limit": 6}, lambda: book("abcdef", "k", "x") | book("bcdefg", "k", "x"))
        refused(self, Clash, {"mode": "b", "key": "k"}, lambda: book("abcdef", "k", "x") | book("bcdefg", "k", "y"))
        one = Book("m", [], {("m", key): Body() for key in SIX})
        self.assertEqual((one | Book("m", [], {("n", "a"): Body()})).bound, SIX)
        refused(self, TooMany, {"limit": 6}, lambda: one | Book("m", [], {("m", "g"): Body()}))
        refused(self, Clash, {"mode": "m", "key": "f"}, lambda: one | Book("m", [], {("m", "g"): Body(), ("m", "f"): Body(Go("m"))}))

    def test_other_values(self):
        for value in plain.ODD + (None, {("m", "k"): Body()}):
            with self.assertRaises(TypeError):
                Book("m") | value

    def test_in_place(self):
        book = same = Book("m", ["n"], {("m", "k"): Body(Say("x")), ("m", "l"): Body()})
        bodies = {("m", "k"): Body(Say("y")), ("o", "k"): Body()}
        book |= bodies
        self.assertIs(book, same)
        self.assertEqual(book, Book("m", ["n"], {("m", "k"): Body(Say("y")), ("m", "l"): Body(), ("o", "k"): Body()}))
        self.assertEqual(len(bodies), 2)
        book |= {}
        self.assertIs(book, same)
        self.assertEqual(len(book), 3)
        before = told(book)
        for more in ({(mode, "k"): Body() for mode in "abcd"}, {("m", key): Body() for key in "abcde"},
                     {("m", "k"): Body(*[Go(mode) for mode in "abcd"])}):
            with self.assertRaises(TooMany) as caught:
                book |= more
            self.assertEqual(caught.exception.limit, 6)
            self.assertIs(book, same)
            self.assertEqual(told(book), before)
        book |= {(mode, "k"): Body() for mode in "abc"}
        self.assertEqual(book.modes, ("a", "b", "c", "m", "n", "o"))


if __name__ == "__main__":
    unittest.main()
