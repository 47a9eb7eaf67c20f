"""Boards [3] (d), [40]: keys are pressed live, and each command is handed over as soon as it is certain."""

import time
import unittest

from onestroke.boards import Board, NotedBoard
from onestroke.bodies import Body, Go, Press, Say, Times
from onestroke.books import Book, Chain
from onestroke.certain import certain
from onestroke.errors import InvalidWords, NeverEnds, TooLong
from onestroke.limits import NUMBER, SIZE
from onestroke.rows import Row, letters, row_of
from test_time import growing_letters
from values import NO_WORDS, refused
import plain
import plainplay
import plainsystem
import wheels


def words(row):
    return list(row.listed())


def example():
    return Book("m", ["m"], {
        ("m", "k"): Body(Go("n")), ("n", "a"): Body(Say("x"), Say("y"), Go("m")), ("n", "b"): Body(Say("x"), Say("z"), Go("m"))})


class Plainly:
    """A board that is played by hand: what came, the state, and what was handed over."""

    def __init__(self, system):
        self.system = system
        self.certain = system.certain()
        self.state = system.first
        self.came = []
        self.handed = list(self.certain.get(self.state, []))
        self.noted = []

    def never(self, keys):
        """The first key whose stroke never ends, None if there is none."""
        state = self.state
        for key in keys:
            state = self.system.after(state, key)
            if state is None:
                return key
        return None

    def press(self, keys):
        """What is handed over newly by keys whose strokes end."""
        before = len(self.handed)
        for key in keys:
            said, _, self.state = self.system.stroke(self.state, key)
            if self.state in self.certain:
                self.came = self.came + said
                self.handed = self.came + self.certain[self.state]
        self.noted = self.noted + list(keys)
        return self.handed[before:]


class Drawn(unittest.TestCase):

    def same(self, board, plainly):
        """The board stands where the one that is played by hand stands."""
        self.assertEqual(words(board.handed), plainly.handed)
        self.assertEqual(board.state, plainly.system.shown(plainly.state))
        alive = plainly.state in plainly.certain
        self.assertIs(board.is_alive, alive)
        self.assertEqual(words(board.ahead), plainly.certain.get(plainly.state, []))
        if alive:
            self.assertEqual(plainly.handed, plainly.came + words(board.ahead))
        if isinstance(board, NotedBoard):
            self.assertEqual(words(board.noted), plainly.noted)

    def look_at(self, draw, system):
        made = system.made()
        boards = [Board(made), NotedBoard(made), Board(made), NotedBoard(made)]
        plainly = Plainly(system)
        ends = 0
        for board in boards:
            self.same(board, plainly)
        for _ in range(draw.randint(1, 8)):
            keys = [draw.choice(system.bound + ("nokey",)) for _ in range(draw.choice((0, 1, 1, 1, 2, 3, 6)))]
            never = plainly.never(keys)
            row = Row.of(keys)
            if never is not None:
                ends += 1
                for board in boards[:2]:
                    refused(self, NeverEnds, {"key": never}, lambda: board.press(*keys))
                for board in boards[2:]:
                    refused(self, NeverEnds, {"key": row}, lambda: board.press_row(row))
            else:
                before = list(plainly.handed)
                new = plainly.press(keys)
                self.assertEqual(before + new, plainly.handed)
                for board in boards[:2]:
                    self.assertEqual(words(board.press(*keys)), new, (system.books, keys))
                self.assertEqual(words(boards[2].press_row(row)), new)
                # One by one it is the same in all.
                found = [word for key in keys for word in words(boards[3].press(key))]
                self.assertEqual(found, new)
            for board in boards:
                self.same(board, plainly)
        return ends

    def test_drawn_systems(self):
        draw = plain.drawing(411)
        for _ in range(400):
            self.look_at(draw, plainsystem.some_system(draw) if draw.random() < 0.5 else plainsystem.late_system(draw))

    def test_strokes_that_never_end(self):
        draw = plain.drawing(412)
        ends = 0
        for _ in range(600):
            bodies = plainplay.some_bodies(draw, plainsystem.MODES[:3], ("a", "b", "c"), ("x", "y"), 3)
            system = plainsystem.Plain([("m", ("m", "n")[:draw.randint(1, 2)], bodies)])
            if plainsystem.is_small(system, 100):
                ends += self.look_at(draw, system)
        self.assertGreater(ends, 25)

    def test_all_that_can_still_come_begins_so(self):
        draw = plain.drawing(413)
        for _ in range(60):
            system = plainsystem.late_system(draw)
            if len(system.states) > 3:
                continue
            board = Board(system.made())
            keys = []
            for _ in range(4):
                keys.append(draw.choice(system.bound))
                if system.run(keys)[2] is None:
                    break
                board.press(keys[-1])
                rows = [system.run(keys)[0] + said for _, said in system.rows_from(system.run(keys)[2], 2 * len(system.states))]
                self.assertEqual(bool(rows), board.is_alive)
                if rows:
                    self.assertEqual(words(board.handed), plainsystem.common_of_all(rows))


class ByHand(unittest.TestCase):

    def test_example(self):
        board = NotedBoard(system=example())
        self.assertEqual([words(board.press(key)) for key in "kakkbq"], [["x"], ["y"], ["x"], [], ["z"], []])
        self.assertEqual(words(board.handed), ["x", "y", "x", "z"])
        self.assertEqual((board.noted, board.ahead, board.state), (Row.of(list("kakkbq")), Row(), "m"))

    def test_first_states_that_are_dead_or_no_rests(self):
        dead = Book("m", ["n"], {("m", "a"): Body(Say("x"))})
        board = Board(dead)
        self.assertEqual((board.handed, board.ahead, board.is_alive, board.state), (Row(), Row(), False, "m"))
        self.assertEqual((board.press("a", "a"), board.handed, board.state), (Row(), Row(), "m"))
        late = Book("m", ["n"], {("m", "a"): Body(Say("x"), Go("n")), ("m", "b"): Body(Say("x"), Say("y"), Go("n")), ("m", "c"): Body(Go("dead"))})
        board = Board(late)
        self.assertEqual((board.handed, board.ahead, board.is_alive), (Row("x"), Row("x"), True))
        self.assertEqual(board.press("b"), Row("y"))
        self.assertEqual((board.handed, board.ahead), (Row("x", "y"), Row()))
        board = Board(late)
        self.assertEqual((board.press("c"), board.handed, board.ahead, board.is_alive, board.state), (Row(), Row("x"), Row(), False, "dead"))

    def test_dead_states(self):
        book = example()
        book["n", "d"] = Body(Say("q"), Go("dead"))
        book["dead", "k"] = Body(Say("r"), Go("grave"))
        for one_by_one in (True, False):
            board = NotedBoard(book)
            keys = ["k", "a", "k", "d", "k", "a", "nokey"]
            if one_by_one:
                self.assertEqual([words(board.press(key)) for key in keys], [["x"], ["y"], ["x"], [], [], [], []])
            else:
                self.assertEqual(board.press(*keys), Row("x", "y", "x"))
            self.assertEqual((board.handed, board.ahead, board.is_alive, board.state), (Row("x", "y", "x"), Row(), False, "grave"))
            self.assertEqual(board.noted, Row.of(keys))

    def test_calls_without_keys(self):
        board = NotedBoard(example())
        self.assertEqual((board.press(), board.press_row(Row()), board.handed, board.noted), (Row(), Row(), Row(), Row()))
        board.press("k")
        self.assertEqual((board.press(), board.press_row(row=Row()), board.handed, board.ahead), (Row(), Row(), Row("x"), Row("x")))

    def test_words_that_are_none(self):
        for board in (Board(example()), NotedBoard(example() + example())):
            board.press("k")
            before = board.state, board.handed, board.ahead
            for value in NO_WORDS:
                for keys in ((value,), ("a", value), (value, "a"), ("a", "b", value, "k")):
                    refused(self, InvalidWords, {"value": keys}, lambda: board.press(*keys))
            self.assertEqual((board.state, board.handed, board.ahead), before)

    def test_words_that_are_none_ahead_of_all_else(self):
        book = Book("m", ["m"], {("m", "a"): Body(Press("a"))})
        board = NotedBoard(book)
        refused(self, InvalidWords, {"value": ("a", "A")}, lambda: board.press("a", "A"))
        refused(self, NeverEnds, {"key": "a"}, lambda: board.press("b", "a", "c"))
        row = Row("b", "a")
        refused(self, NeverEnds, {"key": row}, lambda: board.press_row(row))
        self.assertEqual((board.noted, board.state), (Row(), "m"))

    def test_the_first_key_that_never_ends(self):
        book = Book("m", ["m"], {("m", "a"): Body(Go("n")), ("n", "b"): Body(Press("b")), ("m", "c"): Body(Press("c")), ("n", "c"): Body(Go("dead")), ("dead", "a"): Body(Press("a"))})
        board = Board(book)
        refused(self, NeverEnds, {"key": "b"}, lambda: board.press("b", "a", "a", "b", "c"))
        refused(self, NeverEnds, {"key": "c"}, lambda: board.press("b", "b", "c", "a"))
        # At states that are not alive, too.
        refused(self, NeverEnds, {"key": "a"}, lambda: board.press("a", "c", "a"))
        board.press("a", "c")
        self.assertFalse(board.is_alive)
        refused(self, NeverEnds, {"key": "a"}, lambda: board.press("a"))
        self.assertEqual(board.state, "dead")

    def test_many_keys_in_one_call(self):
        board = NotedBoard(example())
        keys = ["k", "a", "k", "b"] * 1000
        self.assertEqual(board.press(*keys), Row("x", "y", "x", "z") * 1000)
        self.assertEqual(board.noted, Row("k", "a", "k", "b") * 1000)

    def test_books_that_are_edited_behind_the_board(self):
        book = example()
        second = Book("m", ["m"], {("m", "x"): Body(Say("x"))})
        chain = book + second
        boards = [Board(book), Board(chain)]
        for one in (book, second, chain.books[0]):
            one["m", "k"] = Body(Say("q"))
            one["m", "x"] = Body(Say("q"))
            one.set_rest([])
            one.set_first("o")
        for board in boards:
            self.assertEqual((board.press("k", "a"), board.is_alive), (Row("x", "y") if board is boards[0] else Row("x"), True))

    def test_what_is_told_is_a_copy(self):
        board = NotedBoard(example())
        board.press("k")
        row, noted = board.handed, board.noted
        row += Row("q")
        noted += Row("q")
        self.assertEqual((board.handed, board.noted), (Row("x"), Row("k")))
        for name in ("handed", "ahead", "state", "is_alive", "noted"):
            with self.assertRaises(AttributeError):
                setattr(board, name, Row())
        self.assertNotEqual(board, NotedBoard(example()))


class Great(unittest.TestCase):

    def setUp(self):
        self.began = time.perf_counter()

    def tearDown(self):
        self.assertLess(time.perf_counter() - self.began, 60)

    def test_rows_of_the_greatest_size(self):
        for kind in (Board, NotedBoard):
            board = kind(example())
            new = board.press_row(Row("k", "a") * (SIZE // 4) + Row("k"))
            self.assertEqual(new, Row("x", "y") * (SIZE // 4) + Row("x"))
            self.assertEqual(board.press_row(Row("a") + Row("k", "b") * 10 ** 9), Row("y") + Row("x", "z") * 10 ** 9)
            self.assertEqual(board.handed, Row("x", "y") * (SIZE // 4 + 1) + Row("x", "z") * 10 ** 9)
        board = NotedBoard(example())
        self.assertEqual(board.press_row(Row("nokey") * SIZE), Row())
        self.assertEqual(board.noted.size, SIZE)

    def test_rows_of_some_thousand_levels(self):
        book = Book("m", ["m"], {
            ("m", "a"): Body(Go("n")), ("n", "a"): Body(Say("x"), Go("m")), ("n", "b"): Body(Say("x"), Say("y"), Go("m")), ("m", "b"): Body(Say("z"))})
        row = row_of(growing_letters(4001))
        board = NotedBoard(book)
        new = board.press_row(row)
        self.assertEqual((board.handed, board.noted), (new, row))
        other = Board(book)
        at = row.size // 3
        self.assertEqual(other.press_row(row.part(0, at)) + other.press_row(row.part(at, row.size - at)), new)
        self.assertEqual((other.state, other.ahead, other.handed), (board.state, board.ahead, board.handed))

    def test_rows_that_come_to_a_dead_mode_in_the_middle(self):
        book = example()
        book["m", "d"] = Body(Say("q"), Go("dead"))
        book["n", "d"] = Body(Go("dead"))
        book["dead", "k"] = Body(Times(NUMBER, Say("r")))
        for many, ending in ((10 ** 30, Row()), (10 ** 30 + 7, Row("k")), (0, Row("k")), (1, Row())):
            for row in (Row("k", "a") * many + ending + Row("d") + Row("k", "a") * 10 ** 40,
                        (Row("k", "a") * many + ending + Row("d")) * 10 ** 50):
                board = NotedBoard(book)
                self.assertEqual(board.press_row(row), Row("x", "y") * many + Row("x") * ending.size)
                self.assertEqual((board.is_alive, board.state, board.ahead, board.noted), (False, "dead", Row(), row))
                self.assertEqual(board.press_row(Row("k") * 10 ** 3990), Row())

    def test_too_long(self):
        book = Book("m", ["m"], {("m", "a"): Body(Say("x")), ("m", "b"): Body(Say("x"), Say("x")), ("m", "c"): Body(), ("m", "r"): Body(Press("r"))})
        for system in (book, book + Book("m", ["m"], {("m", "x"): Body(Say("y"))})):
            for kind in (Board, NotedBoard):
                board = kind(system)
                word = Row("x") if system is book else Row("y")
                refused(self, TooLong, {"limit": SIZE}, lambda: board.press_row(Row("b") * (SIZE // 2) + Row("a")))
                refused(self, TooLong, {"limit": SIZE}, lambda: board.press_row(Row("b") * SIZE))
                self.assertEqual(board.handed, Row())
                self.assertEqual(board.press_row(Row("b") * (SIZE // 2 - 1)), word * (SIZE - 2))
                refused(self, TooLong, {"limit": SIZE}, lambda: board.press("a", "b"))
                refused(self, TooLong, {"limit": SIZE}, lambda: board.press("a", "a", "a"))
                self.assertEqual(board.press("b"), word * 2)
                refused(self, TooLong, {"limit": SIZE}, lambda: board.press("a"))
                row = Row("b", "r", "a")
                refused(self, NeverEnds, {"key": row}, lambda: board.press_row(row))
                refused(self, NeverEnds, {"key": "r"}, lambda: board.press("b", "b", "r"))
                # Keys that say nothing are pressed as long as there is room for them.
                self.assertEqual(board.press_row(Row("c") * (SIZE // 2)), Row())
                refused(self, TooLong, {"limit": SIZE}, lambda: board.press("c"))
                refused(self, TooLong, {"limit": SIZE}, lambda: board.press_row(Row("nokey") * SIZE))
                self.assertEqual((board.press(), board.handed.size, board.is_alive), (Row(), SIZE, True))
                if kind is NotedBoard:
                    self.assertEqual(board.noted.size, SIZE)

    def test_too_long_with_what_is_ahead(self):
        book = Book("m", ["m"], {("m", "a"): Body(Go("n")), ("n", "a"): Body(Say("x"), Say("x"), Go("m")), ("m", "b"): Body(Say("x"))})
        board = Board(book)
        board.press_row(Row("b") * (SIZE - 1))
        # Two more would be handed over ahead of their stroke.
        refused(self, TooLong, {"limit": SIZE}, lambda: board.press("a"))
        self.assertEqual((board.state, board.handed.size, board.ahead), ("m", SIZE - 1, Row()))
        self.assertEqual(board.press("b"), Row("x"))

    def test_great_rows_ahead(self):
        book = Book("m", ["o"], {
            ("m", "l"): Body(Say("x")), ("m", "k"): Body(Times(NUMBER, Times(NUMBER, Say("x"))), Say("y"), Go("o")), ("o", "k"): Body(Go("m"))})
        great = Row("x") * NUMBER ** 2
        for system in (book, book + Book("m", ["m"], {("m", word): Body(Say(word)) for word in "xy"})):
            board = Board(system)
            self.assertEqual((board.handed, board.ahead), (great, great))
            self.assertEqual(board.press("l", "l"), Row("x", "x"))
            self.assertEqual(board.press_row(Row("l") * 10 ** 60), Row("x") * 10 ** 60)
            self.assertEqual(board.press("k"), Row("y"))
            self.assertEqual(board.press("k"), great)
            self.assertEqual(board.handed, Row("x") * (10 ** 60 + 2) + great + Row("y") + great)

    def test_many_calls(self):
        board = Board(wheels.turning(6, 6))
        self.assertEqual(sum([board.press("t").size for _ in range(3600)]), 100)
        self.assertEqual(board.handed, Row("x") * 100)
        board = NotedBoard(example())
        draw = plain.drawing(414)
        said = Row()
        for _ in range(1000):
            said = said + board.press(draw.choice("kab"))
        self.assertEqual((board.handed, board.noted.size), (said, 1000))


if __name__ == "__main__":
    unittest.main()
