"""Pressed rows [30], [31]: states, outcomes, what counts, shortest rows to states and without an end."""

import itertools
import unittest

from onestroke.bodies import Body, Go, Press, Say, Times
from onestroke.books import Book, Chain
from onestroke.errors import InvalidPressed, UnknownState
from onestroke.pressing import counts, endless_row, first_state, is_rest, row_to, run, states
from onestroke.rows import Row
from onestroke.strokes import Ends, Never, stroke
from values import ANY, OBJECTS, refused
import plain
import plainplay
import plainsystem

MODES = ("m", "n", "o", "p", "q", "r")


def example():
    """The book of the document."""
    return Book("m", ["m"], {
        ("m", "k"): Body(Go("n")), ("n", "a"): Body(Say("x"), Say("y"), Go("m")), ("n", "b"): Body(Say("x"), Say("z"), Go("m"))})


def outcome(system, told):
    """The outcome of the package for the one of a plain system."""
    said, ring, end = told
    return Ends(Row.of(said), system.shown(end)) if ring is None else Never(Row.of(said), Row.of(ring))


def some_keys(draw, system, most):
    names = system.bound + ("x", "nokey")
    return [draw.choice(names) for _ in range(draw.randint(0, most))]


class States(unittest.TestCase):

    def test_states_of_books(self):
        for many in range(1, 7):
            for order in itertools.islice(itertools.permutations(MODES[:many]), 30):
                book = Book(order[0], order[1:2], {(mode, "k"): Body() for mode in order[2:4]})
                book["n" if many > 1 else "m", "l"] = Body(Times(0, *[Go(mode) for mode in order[4:]]))
                self.assertEqual(states(book), sorted(MODES[:many]))
                self.assertEqual(first_state(book), order[0])
                self.assertEqual([mode for mode in states(book) if is_rest(book, mode)], list(order[1:2]))

    def test_states_of_chains(self):
        for sizes in ((1, 1), (2, 3), (6, 6), (1, 1, 1), (2, 3, 2), (3, 3, 4), (6, 1, 6)):
            books = [Book(MODES[many - 1], MODES[:many][::2], {(mode, "k"): Body() for mode in MODES[:many]}) for many in sizes]
            chain = Chain.of(books)
            expected = sorted(itertools.product(*[MODES[:many] for many in sizes]))
            self.assertEqual(states(chain), expected)
            self.assertEqual(first_state(chain), tuple(MODES[many - 1] for many in sizes))
            for state in expected:
                self.assertIs(is_rest(chain, state), all(MODES.index(mode) % 2 == 0 for mode in state))

    def test_lists_of_states_are_new(self):
        book = example()
        states(book).append("z")
        self.assertEqual(states(book), ["m", "n"])
        row_to(book, "n").append("z")
        self.assertEqual(row_to(book, "n"), ["k"])

    def test_values_that_are_no_states(self):
        book, chain = example(), example() + Book("m", ["m"])
        for system, good in ((book, ("m", "n")), (chain, (("m", "m"), ("n", "m")))):
            wrong = ANY + OBJECTS + ("o", "k", ("m",), ["m", "m"], ["m"], ("m", "n"), ("m", "m", "m"), ("m", "k"), "mm")
            for value in wrong:
                if isinstance(value, (str, tuple)) and value in good:
                    continue
                refused(self, UnknownState, {"value": value}, lambda: is_rest(system, value))
                refused(self, UnknownState, {"value": value}, lambda: row_to(system, value))
                if value is not None:
                    refused(self, UnknownState, {"value": value}, lambda: run(system, ["k"], value))
                    refused(self, UnknownState, {"value": value}, lambda: run(system, pressed=Row("k"), state=value))
        self.assertEqual(run(book, ["k"], None), run(book, ["k"]))


class Run(unittest.TestCase):

    def test_example(self):
        book = example()
        found = [run(book, ["k", "a", "k", "b"]).row == Row("x", "y", "x", "z"), counts(book, ["k"]),
                 run(book, Row("k", "a") * 10 ** 9).row.size, row_to(book, "n")]
        self.assertEqual(found, [True, False, 2000000000, ["k"]])

    def test_drawn_systems_from_every_state(self):
        draw = plain.drawing(301)
        for _ in range(500):
            system = plainsystem.some_system(draw)
            made = system.made()
            for state in system.states:
                keys = some_keys(draw, system, 8)
                expected = outcome(system, system.run(keys, state))
                pressed = draw.choice((keys, tuple(keys), Row.of(keys)))
                self.assertEqual(run(made, pressed, system.shown(state)), expected, (system.books, keys, state))
                counted = system.counted(keys)
                self.assertIs(counts(made, pressed), counted is not None)
            self.assertEqual(run(made, []), Ends(Row(), system.shown(system.first)))
            self.assertIs(counts(made, Row()), system.is_rest(system.first))

    def test_wild_books_whose_strokes_may_never_end(self):
        draw = plain.drawing(302)
        endless = 0
        for _ in range(600):
            books = [(modes[0], modes[:1], plainplay.some_bodies(draw, modes, keys, said, 3)) for modes, keys, said in (
                (MODES[:2], ("a", "b", "c"), ("x", "y")), (MODES[:2], ("x", "y"), ("u", "v")))]
            system = plainsystem.Plain(books[:draw.randint(1, 2)])
            if not plainsystem.is_small(system, 200):
                continue
            made = system.made()
            for _ in range(8):
                keys = some_keys(draw, system, 6)
                found = run(made, keys)
                self.assertEqual(found, outcome(system, system.run(keys)), (system.books, keys))
                endless += not found.is_end
                self.assertIs(counts(made, keys), system.counted(keys) is not None)
        self.assertGreater(endless, 100)

    def test_ahead_of_a_stroke_that_never_ends(self):
        book = Book("m", ["m"], {
            ("m", "a"): Body(Say("x"), Go("n")), ("n", "a"): Body(Say("y"), Press("b")), ("n", "b"): Body(Say("z"), Press("b"))})
        self.assertEqual(run(book, ["a", "c", "a", "a"]), Never(Row("x", "y"), Row("z")))
        self.assertEqual(run(book, ["a"] * 3 + ["nokey"], "n"), Never(Row("y"), Row("z")))
        # The second book never ends ahead of where the first one would.
        second = Book("m", ["m"], {("m", "x"): Body(Say("p"), Go("n")), ("n", "y"): Body(Say("q"), Press("r")), ("n", "r"): Body(Press("r"))})
        found = run(book + second, ["a", "a", "a"])
        self.assertEqual(found, Never(Row("p", "q"), Row()))
        self.assertEqual((found.front, found.ring.size), (Row("p", "q"), 0))

    def test_keys_that_no_book_has(self):
        chain = example() + Book("m", ["m"], {("m", "x"): Body(Say("u"))})
        for system, state in ((example(), "m"), (chain, ("m", "m"))):
            for pressed in (["x", "y", "z"], Row("x", "zz") * 10 ** 2000, Row("nokey") * 10 ** 4000):
                self.assertEqual(run(system, pressed), Ends(Row(), state))
                self.assertIs(counts(system, pressed), True)

    def test_first_modes_that_are_no_rests(self):
        book = Book("m", ["n"], {("m", "a"): Body(Go("n")), ("n", "a"): Body(Go("m"))})
        self.assertEqual([counts(book, ["a"] * many) for many in range(5)], [False, True, False, True, False])
        self.assertTrue(counts(book, Row("a") * (10 ** 4000 - 1)))
        self.assertFalse(counts(book, Row("a") * 10 ** 4000))

    def test_a_single_key_is_its_stroke(self):
        draw = plain.drawing(303)
        for _ in range(150):
            system = plainsystem.some_system(draw)
            made = system.made()
            for state, key in itertools.product(system.states, system.bound + ("nokey",)):
                self.assertEqual(run(made, [key], system.shown(state)), stroke(made, system.shown(state), key))

    def test_equal_calls(self):
        draw = plain.drawing(304)
        for _ in range(50):
            system = plainsystem.some_system(draw)
            one, other = system.made(), system.made()
            keys = some_keys(draw, system, 6)
            self.assertEqual(run(one, keys), run(other, tuple(keys)))
            self.assertEqual(endless_row(one), endless_row(other))
            self.assertEqual([row_to(one, state) for state in states(one)], [row_to(other, state) for state in states(other)])


class Refused(unittest.TestCase):

    def test_values_that_are_no_pressed_rows(self):
        for system in (example(), example() + example()):
            for value in ANY + OBJECTS + (["k"] * 1001, ("k",) * 1001, ["k", "K"], ["k", ""], [Row("k")], "k", {"k": 1}, ["a" * 9]):
                if isinstance(value, Row) or isinstance(value, (list, tuple)) and plain_words(value):
                    continue
                refused(self, InvalidPressed, {"value": value}, lambda: run(system, value))
                refused(self, InvalidPressed, {"value": value}, lambda: run(system, value, "nostate"))
                refused(self, InvalidPressed, {"value": value}, lambda: counts(system, pressed=value))

    def test_lists_of_a_thousand_words(self):
        book = example()
        keys = ["k", "a"] * 500
        self.assertEqual(run(book, keys), Ends(Row("x", "y") * 500, "m"))
        self.assertEqual(run(book, tuple(keys)), run(book, keys))
        self.assertTrue(counts(book, keys))
        self.assertEqual(keys, ["k", "a"] * 500)
        longer = keys + ["k"]
        refused(self, InvalidPressed, {"value": longer}, lambda: run(book, longer))
        refused(self, InvalidPressed, {"value": longer}, lambda: counts(book, longer))


def plain_words(value):
    return len(value) <= 1000 and all(isinstance(word, str) and word.isalpha() and word.islower() and len(word) < 9 for word in value)


class Searches(unittest.TestCase):

    def plain_ways(self, system):
        """The number of keys of a shortest list to each state, and of one that never ends."""
        found = {system.first: 0}
        endless = None
        todo = [system.first]
        while todo:
            reached = []
            for state in todo:
                for key in system.bound:
                    after = system.after(state, key)
                    if after is None:
                        endless = found[state] + 1 if endless is None else endless
                    elif after not in found:
                        found[after] = found[state] + 1
                        reached.append(after)
            todo = reached
        return found, endless

    def look_at(self, system):
        made = system.made()
        ways, endless = self.plain_ways(system)
        for state in system.states:
            found = row_to(made, system.shown(state))
            self.assertEqual(found if found is None else len(found), ways.get(state), system.books)
            if found is not None:
                self.assertIs(type(found), list)
                self.assertEqual(system.run(found)[2], state)
                self.assertTrue(set(found) <= set(system.bound))
        found = endless_row(made)
        self.assertEqual(found if found is None else len(found), endless)
        if found is not None:
            self.assertIsNone(system.run(found)[2])
            self.assertIsNotNone(system.run(found[:-1])[2])
            self.assertTrue(set(found) <= set(system.bound))

    def test_drawn_systems(self):
        draw = plain.drawing(305)
        for _ in range(400):
            self.look_at(plainsystem.some_system(draw))

    def test_systems_that_may_never_end(self):
        draw = plain.drawing(306)
        for _ in range(200):
            keys = ("a", "b", "c")
            bodies = plainplay.some_bodies(draw, MODES[:4], keys, ("x",), 3)
            system = plainsystem.Plain([("m", ("m",), bodies)])
            if plainsystem.is_small(system, 100):
                self.look_at(system)

    def test_the_end_is_far_away(self):
        # Only the last mode of six has a stroke that never ends; it is no rest and nothing leads back.
        bodies = {(mode, "a"): [("go", MODES[at + 1])] for at, mode in enumerate(MODES[:5])}
        bodies["r", "b"] = [("say", "x"), ("press", "b")]
        system = plainsystem.Plain([("m", (), bodies)])
        self.look_at(system)
        self.assertEqual(endless_row(system.made()), ["a"] * 5 + ["b"])
        self.assertEqual(row_to(system.made(), "m"), [])

    def test_two_wheels(self):
        for one, other in ((6, 6), (6, 5), (5, 6), (4, 6)):
            # The second wheel goes on when the first one has turned once.
            first = {(MODES[at], "t"): ([("say", "c")] if at == one - 1 else []) + [("go", MODES[(at + 1) % one])] for at in range(one)}
            second = {(MODES[at], "c"): [("go", MODES[(at + 1) % other])] for at in range(other)}
            system = plainsystem.Plain([("m", ("m",), first), ("m", ("m",), second)])
            self.assertEqual(len(states(system.made())), one * other)
            self.look_at(system)
            self.assertEqual(row_to(system.made(), (MODES[one - 1], MODES[other - 1])), ["t"] * (one * other - 1))
            self.assertIsNone(endless_row(system.made()))
            self.assertEqual([many for many in range(100) if counts(system.made(), ["t"] * many)], list(range(0, 100, one * other)))


if __name__ == "__main__":
    unittest.main()
