"""onestroke/strokes.py [22], [30]: strokes of books and chains against a plain play, item by item; refused calls."""

import itertools
import unittest

from onestroke import strokes
from onestroke.bodies import Body, Go, Press, Say, Times
from onestroke.books import Book, Chain
from onestroke.errors import InvalidWords, UnknownState
from onestroke.rows import Row
from onestroke.strokes import Ends, Never, Outcome, loop_of, stroke
from values import ANY, NO_WORDS, refused
import plain
import plainplay

KEYS = ["a", "b", "c", "d"]
MODES = ["m", "n", "o"]


def row_of(words):
    """The row of any number of words."""
    row = Row()
    for at in range(0, len(words), 1000):
        row = row + Row.of(words[at:at + 1000])
    return row


def outcome_of(front, ring, state):
    """The outcome that a plain play tells."""
    return Ends(row_of(front), state) if ring is None else Never(row_of(front), row_of(ring))


class Strokes(unittest.TestCase):

    def same(self, system, state, key, told):
        """The stroke is the one that the plain play tells, with the exact commands."""
        front, ring, end = told
        found = stroke(system, state, key)
        self.assertEqual(found, outcome_of(front, ring, end), (state, key))
        self.assertEqual(found, stroke(system=system, state=state, key=key))
        self.assertIs(type(found), Ends if ring is None else Never)
        self.assertIs(found.is_end, ring is None)
        if ring is None:
            self.assertEqual((found.row.size, found.state), (len(front), end))
        many = len(front) + len(ring or ())
        for index in range(0, 3 * many + 2, 1 + many // 10):
            word = plainplay.command(front, ring, index)
            if word is not None:
                self.assertEqual(found.command_at(index), word)
        return ring

    def test_drawn_books(self):
        draw = plain.drawing(101)
        seen = {"ends": 0, "silent": 0, "rings": 0}
        for _ in range(1500):
            keys, modes = KEYS[:draw.randint(1, 4)], MODES[:draw.randint(1, 3)]
            bodies = plainplay.some_bodies(draw, modes, keys, plainplay.COMMANDS)
            book = plainplay.book_of(bodies)
            before = book.text()
            for mode in book.modes:
                for key in keys + ["nokey"]:
                    ring = self.same(book, mode, key, plainplay.played(bodies, mode, key))
                    self.assertEqual(loop_of(book, mode, key), plainplay.loop(bodies, mode, key))
                    seen["ends" if ring is None else "rings" if ring else "silent"] += 1
            self.assertEqual(book.text(), before)
        self.assertTrue(min(seen.values()) > 50, seen)

    def test_drawn_chains(self):
        draw = plain.drawing(102)
        seen = {"ends": 0, "silent": 0, "rings": 0}
        for _ in range(1200):
            many = draw.choice((2, 3))
            keys, modes = KEYS[:draw.randint(1, 4)], MODES[:draw.randint(1, 3)]
            chosen = []
            for at in range(many):
                words = plainplay.COMMANDS if at == many - 1 else keys + ["nokey"]
                chosen.append(plainplay.some_bodies(draw, modes, keys, words))
            books = [plainplay.book_of(bodies) for bodies in chosen]
            chain = Chain.of(books)
            states = list(itertools.product(*[book.modes for book in books]))
            for state in draw.sample(states, min(6, len(states))):
                for key in keys:
                    ring = self.same(chain, state, key, plainplay.chained(chosen, state, key))
                    seen["ends" if ring is None else "rings" if ring else "silent"] += 1
        self.assertTrue(min(seen.values()) > 50, seen)

    def test_keys_without_a_body_and_words_that_are_no_keys(self):
        book = Book("m", ["n"], {("m", "k"): Body(Press("l"), Press("q"), Say("x")), ("n", "l"): Body(Say("y"))})
        self.assertEqual(stroke(book, "m", "l"), Ends(Row(), "m"))
        self.assertEqual(stroke(book, "n", "k"), Ends(Row(), "n"))
        self.assertEqual(stroke(book, "n", "zzzzzzzz"), Ends(Row(), "n"))
        self.assertEqual(stroke(book, "m", "k"), Ends(Row("x"), "m"))
        self.assertEqual(stroke(book, "n", "l"), Ends(Row("y"), "n"))
        # Modes, commands and keys are words of their own: the same word may be each of them.
        one = Book("k", [], {("k", "k"): Body(Say("k"), Go("m"), Say("k")), ("m", "k"): Body(Press("m"), Go("k"))})
        self.assertEqual(stroke(one, "k", "k"), Ends(Row("k", "k"), "m"))
        self.assertEqual(stroke(one, "m", "k"), Ends(Row(), "k"))

    def test_items(self):
        book = Book("m", [], {
            ("m", "say"): Body(Say("x"), Say("y"), Say("x")), ("m", "go"): Body(Go("n"), Say("x"), Go("o")),
            ("m", "press"): Body(Press("go"), Press("say"), Press("back"), Press("say")), ("o", "back"): Body(Say("z"), Go("m")),
            ("m", "none"): Body(Times(0, Say("x"), Go("n"), Press("none")), Times(3, Times(0, Press("none")))),
            ("o", "say"): Body(Times(2, Say("a"), Times(2, Say("b"))))})
        self.assertEqual(stroke(book, "m", "say"), Ends(Row("x", "y", "x"), "m"))
        self.assertEqual(stroke(book, "m", "go"), Ends(Row("x"), "o"))
        self.assertEqual(stroke(book, "o", "say"), Ends(Row("a", "b", "b", "a", "b", "b"), "o"))
        self.assertEqual(stroke(book, "m", "press"), Ends(Row("x", "a", "b", "b", "a", "b", "b", "z", "x", "y", "x"), "m"))
        self.assertEqual(stroke(book, "m", "none"), Ends(Row(), "m"))
        self.assertIsNone(loop_of(book, "m", "none"))

    def test_strokes_that_never_end(self):
        book = Book("m", [], {
            ("m", "a"): Body(Say("x"), Press("b"), Say("z")), ("m", "b"): Body(Say("y"), Go("n"), Press("a")),
            ("n", "a"): Body(Times(2, Say("w"), Go("m")), Press("b")), ("m", "c"): Body(Times(5, Press("d"), Press("c"))),
            ("m", "d"): Body(Say("v")), ("n", "b"): Body(Press("b")), ("n", "d"): Body(Go("m"), Times(3, Press("e"))),
            ("m", "e"): Body(Say("u"), Go("o")), ("o", "e"): Body(Say("t"), Go("p")), ("p", "e"): Body(Say("s"), Press("e"))})
        self.assertEqual(stroke(book, "m", "a"), Never(Row("x"), Row("y", "w", "w")))
        self.assertEqual(loop_of(book, "m", "a"), (("m", "a"), ("m", "b"), ("n", "a"), ("m", "b")))
        self.assertEqual(stroke(book, "m", "c"), Never(Row(), Row("v")))
        self.assertEqual(loop_of(book, "m", "c"), (("m", "c"), ("m", "c")))
        self.assertEqual(stroke(book, "n", "b"), Never(Row(), Row()))
        self.assertEqual(loop_of(book, "n", "b"), (("n", "b"), ("n", "b")))
        # It never ends within a repetition, in the third turn, behind two that end.
        self.assertEqual(stroke(book, "n", "d"), Never(Row("u", "t"), Row("s")))
        self.assertEqual(loop_of(book, mode="n", key="d"), (("n", "d"), ("p", "e"), ("p", "e")))
        self.assertIsNone(loop_of(book, "m", "e"))

    def test_the_same_key_in_another_mode_is_another_stroke(self):
        book = Book("m", [], {("m", "a"): Body(Say("x"), Go("n"), Press("a")), ("n", "a"): Body(Say("y"), Go("o"), Press("a"))})
        self.assertEqual(stroke(book, "m", "a"), Ends(Row("x", "y"), "o"))
        book["o", "a"] = Body(Say("z"), Go("n"), Press("a"))
        self.assertEqual(stroke(book, "m", "a"), Never(Row("x"), Row("y", "z")))
        self.assertEqual(loop_of(book, "m", "a"), (("m", "a"), ("n", "a"), ("o", "a"), ("n", "a")))

    def test_chains_that_never_end(self):
        forever = Body(Say("x"), Press("a"))
        first = Book("m", [], {("m", "a"): forever, ("m", "b"): Body(Say("a"), Say("b")), ("m", "c"): Body(Press("c"))})
        silent = Book("m", [], {("m", "x"): Body(), ("m", "b"): Body(Press("b")), ("m", "a"): Body(Say("y"))})
        states = Book("m", [], {("m", "x"): Body(Say("p"), Go("n")), ("n", "x"): Body(Say("q"), Go("o")), ("o", "x"): Body(Say("r"), Go("n"))})
        last = Book("m", [], {("m", "p"): Body(Say("w"), Go("n")), ("n", "r"): Body(Say("z"), Press("r")), ("n", "q"): Body(Say("v"))})
        # In the first book alone, with and without more that comes out.
        self.assertEqual(stroke(first + states, ("m", "m"), "a"), Never(Row("p"), Row("q", "r")))
        self.assertEqual(stroke(first + silent, ("m", "m"), "a"), Never(Row(), Row()))
        self.assertEqual(stroke(first + silent, ("m", "m"), "c"), Never(Row(), Row()))
        self.assertEqual(stroke(first + silent + last, ("m", "m", "m"), "a"), Never(Row(), Row()))
        # In the second one, behind a command that came of the word ahead.
        self.assertEqual(stroke(first + silent, ("m", "m"), "b"), Never(Row("y"), Row()))
        self.assertEqual(stroke(silent + first, ("m", "m"), "a"), Ends(Row(), ("m", "m")))
        # In the third one, while the first one would still go on.
        self.assertEqual(stroke(first + states + last, ("m", "m", "m"), "a"), Never(Row("w", "v"), Row("z")))
        self.assertEqual(stroke(first + states + last, ("m", "n", "m"), "a"), Never(Row(), Row()))
        self.assertEqual(stroke(first + states + last, ("m", "n", "n"), "a"), Never(Row("v"), Row("z")))

    def test_states_of_chains_that_end(self):
        one = Book("m", [], {("m", "a"): Body(Say("k"), Go("n"), Say("k")), ("n", "a"): Body(Say("k"))})
        two = Book("p", [], {("p", "k"): Body(Say("l"), Go("q")), ("q", "k"): Body(Say("l"), Say("l"), Go("r")), ("r", "k"): Body(Go("p"))})
        self.assertEqual(stroke(one + two, ("m", "p"), "a"), Ends(Row("l", "l", "l"), ("n", "r")))
        self.assertEqual(stroke(one + two, ("n", "r"), "a"), Ends(Row(), ("n", "p")))
        self.assertEqual(stroke(one + two + one, ("m", "p", "m"), "a"), Ends(Row(), ("n", "r", "m")))
        self.assertEqual(stroke(one + two + one, ("m", "p", "m"), "q"), Ends(Row(), ("m", "p", "m")))

    def test_unknown_states(self):
        book = Book("m", ["r"], {("n", "a"): Body(Go("o"), Times(0, Go("p")))})
        for mode in ("m", "n", "o", "p", "r"):
            self.assertEqual(stroke(book, mode, "q"), Ends(Row(), mode))
        wrong = [value for value in ANY if value != "a"] + ["a", "q", ("m",), ["m"], ("m", "m"), "M", "m ", b"m", {"m": 1}]
        for value in wrong:
            for key in ("a", "q", None, [], "A"):
                refused(self, UnknownState, {"value": value}, lambda: stroke(book, value, key))
                refused(self, UnknownState, {"value": value}, lambda: loop_of(book, value, key))
        chain, three = book + Book("a", ["m"]), book + book + Book("a")
        self.assertEqual(stroke(chain, ("p", "m"), "q"), Ends(Row(), ("p", "m")))
        more = wrong + [("m", "n"), ("a", "a"), ("m",), ("m", "a", "a"), ["m", "a"], (("m", "a"),), ("m", None), (["m"], "a"), "m", "ma"]
        for value in more:
            if value not in (("m", "a"), ("m", "m")):
                refused(self, UnknownState, {"value": value}, lambda: stroke(chain, value, "a"))
                refused(self, UnknownState, {"value": value}, lambda: stroke(three, value, None))

    def test_no_keys(self):
        book = Book("m", [], {("m", "a"): Body(Press("a"))})
        for value in NO_WORDS + ("abcdefghi", "A", "a b", ("m", "a")):
            refused(self, InvalidWords, {"value": value}, lambda: stroke(book, "m", value))
            refused(self, InvalidWords, {"value": value}, lambda: loop_of(book, "m", value))
            refused(self, InvalidWords, {"value": value}, lambda: stroke(book + book, ("m", "m"), value))

    def test_a_book_that_is_changed_and_changed_back(self):
        book = Book("m", [], {("m", "a"): Body(Press("b"), Say("x")), ("m", "b"): Body(Say("y"))})
        chain = book + Book("m", [], {("m", "y"): Body(Say("z"))})
        one = stroke(book, "m", "a")
        self.assertEqual(one, Ends(Row("y", "x"), "m"))
        book["m", "b"] = Body(Press("a"))
        self.assertEqual(stroke(book, "m", "a"), Never(Row(), Row()))
        self.assertEqual(loop_of(book, "m", "a"), (("m", "a"), ("m", "b"), ("m", "a")))
        self.assertEqual(stroke(chain, ("m", "m"), "a"), Ends(Row("z"), ("m", "m")))
        book.take("m", "b")
        self.assertEqual(stroke(book, "m", "a"), Ends(Row("x"), "m"))
        book["m", "b"] = Body(Say("y"))
        self.assertEqual(stroke(book, "m", "a"), one)
        self.assertIsNone(loop_of(book, "m", "a"))
        book.set_first("n")
        self.assertEqual(stroke(book, "n", "a"), Ends(Row(), "n"))
        book.set_first("m")
        refused(self, UnknownState, {"value": "n"}, lambda: stroke(book, "n", "a"))

    def test_the_example(self):
        one = Book("m", ["m"], {("m", "a"): Body(Say("y"), Press("b")), ("m", "b"): Body(Say("x"), Press("b"))})
        self.assertEqual(
            [stroke(one, "m", "a") == Never(Row("y"), Row("x")), loop_of(one, "m", "a"), stroke(one, "m", "c") == Ends(Row(), "m")],
            [True, (("m", "a"), ("m", "b"), ("m", "b")), True])

    def test_defined_in_its_file(self):
        for name in ("Outcome", "Ends", "Never", "stroke", "loop_of"):
            self.assertEqual(getattr(strokes, name).__module__, "onestroke.strokes")
        for made, names in ((Outcome, ("is_end",)), (Ends, ("row", "state", "is_end")), (Never, ("front", "ring", "is_end"))):
            self.assertTrue({"command_at", "parting", "__eq__"} <= set(vars(made)))
            for name in names:
                self.assertIsInstance(vars(made)[name], property)
        self.assertEqual((Ends.__bases__, Never.__bases__), ((Outcome,), (Outcome,)))


if __name__ == "__main__":
    unittest.main()
