"""Great pressed rows [31]: told folded, of any size and of some thousand levels, on books and chains."""

import time
import unittest

from onestroke.bodies import Body, Go, Press, Say, Times
from onestroke.books import Book, Chain
from onestroke.errors import InvalidPressed, TooLong, UnknownState
from onestroke.limits import NUMBER, SIZE
from onestroke.patterns import times_in
from onestroke.pressing import counts, run
from onestroke.rows import Row, letters, row_of
from onestroke.strokes import Ends, Never
from test_time import growing_letters, levels_of
from values import refused
import plain
import plainsystem

NUMBERS = (1, 2, 3, 7, 10 ** 9, 10 ** 30, 10 ** 30 + 1, 10 ** 31 - 7)
AHEAD = 10 ** 1000


def some_tree(draw, keys, depth):
    """(row, tree): a pressed row, and how it is put together: a list of keys, or ("sum", trees), or ("times", n, tree)."""
    kind = draw.randrange(3) if depth else 0
    if kind == 0:
        pressed = [draw.choice(keys + ("nokey",)) for _ in range(draw.randint(1, 4))]
        return Row.of(pressed), pressed
    if kind == 1:
        parts = [some_tree(draw, keys, depth - 1) for _ in range(draw.randint(2, 3))]
        row = Row()
        for part, _ in parts:
            row = row + part
        return row, ("sum", [tree for _, tree in parts])
    number = draw.choice(NUMBERS)
    row, tree = some_tree(draw, keys, depth - 1)
    return row * number, ("times", number, tree)


class Machine:
    """What trees of keys do, by remainders over the strokes of single keys; never ends: (row ahead, the key's state)."""

    def __init__(self, system):
        self.system = system

    def play(self, state, tree):
        """(row, state), or (row ahead, (state, key)) and True, behind these two, if a stroke never ends."""
        if isinstance(tree, list):
            row = Row()
            for key in tree:
                said, _, after = self.system.stroke(state, key)
                if after is None:
                    return row, (state, key), True
                row, state = row + Row.of(said), after
            return row, state, False
        if tree[0] == "sum":
            row = Row()
            for part in tree[1]:
                more, state, lost = self.play(state, part)
                row = row + more
                if lost:
                    return row, state, True
            return row, state, False
        return self.times(state, tree[1], tree[2])

    def times(self, state, number, tree):
        met = {}
        rows = []
        while state not in met and len(rows) < number:
            met[state] = len(rows)
            row, state, lost = self.play(state, tree)
            rows.append(row)
            if lost:
                return self.summed(rows), state, True
        if len(rows) == number:
            return self.summed(rows), state, False
        at = met[state]
        ring, left = rows[at:], number - at
        row = self.summed(rows[:at]) + self.summed(ring) * (left // len(ring)) + self.summed(ring[:left % len(ring)])
        return row, [one for one, place in met.items() if place == at + left % len(ring)][0], False

    def summed(self, rows):
        found = Row()
        for row in rows:
            found = found + row
        return found


class Great(unittest.TestCase):

    def setUp(self):
        self.began = time.perf_counter()

    def within(self, seconds):
        self.assertLess(time.perf_counter() - self.began, seconds)

    def look_at(self, system, row, tree):
        """The outcome of a row is that of its tree."""
        made = system.made()
        said, end, lost = Machine(system).play(system.first, tree)
        found = run(made, row)
        if lost:
            front, ring, _ = system.stroke(*end)
            self.assertEqual(found, Never(said + Row.of(front), Row.of(ring)))
            self.assertIs(counts(made, row), False)
        else:
            self.assertEqual(found, Ends(said, system.shown(end)))
            self.assertEqual(letters(found.row), letters(said))
            self.assertIs(counts(made, row), system.is_rest(end))
        return lost

    def test_sums_of_powers(self):
        draw = plain.drawing(311)
        lost = 0
        for _ in range(250):
            system = plainsystem.some_system(draw)
            for _ in range(3):
                parts = [[draw.choice(system.bound + ("nokey",)) for _ in range(draw.randint(1, 4))] for _ in range(3)]
                numbers = [draw.choice(NUMBERS[4:]) + draw.randrange(9) for _ in parts]
                row = Row()
                for part, number in zip(parts, numbers):
                    row = row + number * Row.of(part)
                tree = ("sum", [("times", number, part) for part, number in zip(parts, numbers)])
                lost += self.look_at(system, row, tree)
        self.within(60)

    def test_powers_within_powers(self):
        draw = plain.drawing(312)
        lost = 0
        for _ in range(300):
            system = plainsystem.some_system(draw)
            if draw.random() < 0.4 and system.bound:
                first, rest, bodies = system.books[-1]
                pair = draw.choice(sorted(bodies) or [(first, "x")])
                bodies = {**bodies, pair: [("say", "u"), ("press", pair[1])]}
                system = plainsystem.Plain(system.books[:-1] + [(first, rest, bodies)])
            lost += self.look_at(system, *some_tree(draw, system.bound, 4))
        self.assertGreater(lost, 20)
        self.within(60)

    def test_rows_of_the_greatest_size(self):
        book = Book("m", ["m"], {("m", "a"): Body(Say("x"), Go("n")), ("n", "a"): Body(Say("y"), Go("m")), ("n", "b"): Body(Go("m"))})
        self.assertEqual(run(book, Row("a") * SIZE), Ends(Row("x", "y") * (SIZE // 2), "m"))
        self.assertEqual(run(book, Row("a") * (SIZE - 1)), Ends(Row("x", "y") * (SIZE // 2 - 1) + Row("x"), "n"))
        self.assertEqual(run(book, (Row("a") + Row("b") * 3) * (SIZE // 4)), Ends(Row("x") * (SIZE // 4), "m"))
        self.assertEqual([counts(book, Row("a") * (SIZE - at)) for at in range(4)], [True, False, True, False])
        chain = book + book + book
        self.assertEqual(run(chain, Row("c") * SIZE), Ends(Row(), ("m", "m", "m")))
        self.within(10)

    def test_rows_of_some_thousand_levels(self):
        swapping = Book("m", [], {
            ("m", "a"): Body(Say("x")), ("m", "b"): Body(Say("y"), Go("n")), ("n", "b"): Body(Say("y"), Go("m")), ("n", "a"): Body(Say("x"))})
        entries = growing_letters(8001)
        row = row_of(entries)
        self.assertEqual(levels_of(entries), 4001)
        found = run(swapping, row)
        self.assertEqual(letters(found.row), ["x", "y"] + entries[2:])
        self.assertEqual(found.state, "mn"[times_in(row, ["b"]) % 2])
        self.assertEqual(counts(swapping, row), False)
        # A mode for each remainder of the number of keys.
        six = Book("a", ["a"], {("abcdef"[at], key): Body(Say(key), Say(key), Go("abcdef"[(at + 1) % 6])) for at in range(6) for key in "ab"})
        found = run(six, row)
        self.assertEqual((found.state, found.row.size), ("abcdef"[row.size % 6], 2 * row.size))
        self.assertTrue(found.row.starts_with(Row("a", "a", "b", "b", "a", "a")))
        found = run(six + swapping, row)
        self.assertEqual(letters(found.row)[:2], ["x", "y"])
        self.assertEqual((found.row.size, found.state), (2 * row.size, ("abcdef"[row.size % 6], "m")))
        silent = Book("m", ["n"], {("m", "b"): Body(Go("n")), ("n", "b"): Body(Go("m"))})
        self.assertEqual(run(silent, row), Ends(Row(), found_mode(row)))
        self.assertEqual(counts(silent, row), found_mode(row) == "n")
        self.within(60)

    def test_deep_rows_against_sums(self):
        # The rows before, one behind the other in several ways, and what comes of them from each mode.
        draw = plain.drawing(313)
        for _ in range(12):
            system = plainsystem.some_system(draw, books=draw.choice((1, 2)))
            if any(system.after(state, key) is None for state in system.states for key in system.bound):
                continue
            made = system.made()
            keys = system.bound[:2] if len(system.bound) > 1 else system.bound + ("nokey",)
            rows = [Row(key) for key in keys]
            told = [{state: (Row.of(system.stroke(state, key)[0]), system.after(state, key)) for state in system.states} for key in keys]
            for _ in range(60):
                order = [draw.randrange(max(0, len(rows) - 3), len(rows)) for _ in range(draw.choice((2, 2, 3)))]
                row = Row()
                for at in order:
                    row = row + rows[at]
                rows.append(row)
                told.append({state: self.one_behind_the_other(state, [told[at] for at in order]) for state in system.states})
            for state in system.states:
                self.assertEqual(run(made, rows[-1], system.shown(state)), Ends(told[-1][state][0], system.shown(told[-1][state][1])))
        self.within(60)

    def one_behind_the_other(self, state, parts):
        row = Row()
        for part in parts:
            more, state = part[state]
            row = row + more
        return row, state


def found_mode(row):
    return "mn"[times_in(row, ["b"]) % 2]


class Long(unittest.TestCase):

    def test_too_long_exactly_beyond_the_size(self):
        book = Book("m", ["m"], {("m", "a"): Body(Say("x")), ("m", "b"): Body(Say("x"), Say("x")), ("m", "c"): Body(Times(NUMBER, Times(NUMBER, Say("x"))))})
        self.assertEqual(run(book, Row("a") * SIZE).row.size, SIZE)
        self.assertEqual(run(book, Row("b") * (SIZE // 2)).row.size, SIZE)
        self.assertEqual(run(book, Row("b") + Row("a") * (SIZE - 2)).row.size, SIZE)
        for row in (Row("b") + Row("a") * (SIZE - 1), Row("b") * (SIZE // 2 + 1), Row("b") * (SIZE // 2) + Row("a"), Row("b") * SIZE,
                    Row("c") * SIZE, (Row("c") * 10 ** 2000 + Row("a")) * 10 ** 1990):
            refused(self, TooLong, {"limit": SIZE}, lambda: run(book, row))
            refused(self, TooLong, {"limit": SIZE}, lambda: run(book + Book("m", ["m"], {("m", "x"): Body(Say("y"))}), row))
            self.assertIs(counts(book, row), True)
        # What counts is said by the last book.
        quiet = book + Book("m", ["m"], {("m", "x"): Body()})
        self.assertEqual(run(quiet, Row("c") * SIZE), Ends(Row(), ("m", "m")))

    def test_too_long_ahead_of_a_stroke_that_never_ends(self):
        book = Book("m", ["m"], {
            ("m", "a"): Body(Say("x")), ("m", "b"): Body(Say("x"), Say("x")), ("m", "r"): Body(Times(NUMBER, Say("y")), Say("z"), Press("r")),
            ("m", "q"): Body(Press("q"))})
        for system in (book, book + Book("m", [], {("m", key): Body(Say(key)) for key in "xyz"})):
            for ending, key in ((Row("y") * NUMBER + Row("z"), "r"), (Row(), "q")):
                for ahead in (Row("a") * AHEAD, Row("b") * (AHEAD // 2), Row("a") * (AHEAD - 2) + Row("b")):
                    self.assertEqual(run(system, ahead + Row(key) + Row("a") * 10 ** 3000), Never(Row("x") * AHEAD, ending))
                    self.assertIs(counts(system, ahead + Row(key)), False)
                for ahead in (Row("a") * (AHEAD + 1), Row("b") * (AHEAD // 2) + Row("a"), Row("a") * (AHEAD - 1) + Row("b"), Row("b") * AHEAD):
                    refused(self, TooLong, {"limit": SIZE}, lambda: run(system, ahead + Row(key)))
                    refused(self, TooLong, {"limit": SIZE}, lambda: run(system, ahead + Row(key) + Row("a") * 7))
                    self.assertIs(counts(system, ahead + Row(key)), False)
        # The commands of the stroke itself are not ahead of it.
        found = run(book, Row("a") * AHEAD + Row("r"))
        self.assertEqual([found.command_at(AHEAD - 1), found.command_at(AHEAD), found.command_at(AHEAD + NUMBER)], ["x", "y", "z"])

    def test_which_error_comes_first(self):
        book = Book("m", ["m"], {("m", "b"): Body(Say("x"), Say("x"))})
        row = Row("b") * SIZE
        refused(self, UnknownState, {"value": "n"}, lambda: run(book, row, "n"))
        words = ["B"]
        refused(self, InvalidPressed, {"value": words}, lambda: run(book, words, "n"))

    def test_never_ending_strokes_of_chains(self):
        # The first book says a great row, the second one says more of each command, the third one never ends behind it.
        first = Book("m", [], {("m", "a"): Body(Times(NUMBER, Say("x")), Say("y"), Say("x"))})
        second = Book("m", [], {("m", "x"): Body(Times(NUMBER, Say("p"), Say("q"))), ("m", "y"): Body(Say("r"))})
        third = Book("m", [], {("m", "p"): Body(Say("u")), ("m", "r"): Body(Say("v"), Go("n")), ("n", "q"): Body(Say("w"), Press("q"))})
        found = run(Chain(first, second, third), Row("b") * 10 ** 30 + Row("a") * 10 ** 30)
        self.assertEqual(found, Never(Row("u") * NUMBER ** 2 + Row("v"), Row("w")))
        third["n", "q"] = Body()
        found = run(Chain(first, second, third), Row("a") * 10 ** 30)
        self.assertEqual(found, Ends(Row("u") * NUMBER ** 2 + Row("v"), ("m", "m", "n")))


if __name__ == "__main__":
    unittest.main()
