"""Strokes that say more than anybody could list [1], [22], [30]: by remainders, and against a play by doubling."""

import itertools
import time
import unittest

from onestroke.bodies import Body, Go, Press, Say, Times
from onestroke.books import Book, Chain
from onestroke.limits import NUMBER
from onestroke.patterns import times_in
from onestroke.rows import Row, letters
from onestroke.strokes import Ends, Never, loop_of, stroke
import plain
import plaingreat
import plainplay

NUMBERS = (0, 1, 2, 3, 7, 8, 20, NUMBER, NUMBER - 1, NUMBER - 6, 999983)
MODES = ("a", "b", "c", "d", "e", "f")
KEYS = ("ka", "kb", "kc", "kd", "ke", "kf")


def with_great_numbers(draw, items):
    """The same plain items with numbers that may be great."""
    return [("times", draw.choice(NUMBERS), with_great_numbers(draw, item[2])) if item[0] == "times" else item for item in items]


def great_bodies(draw, modes, keys, commands):
    """Plain bodies with great numbers."""
    bodies = plainplay.some_bodies(draw, modes, keys, commands, 5)
    return {pair: with_great_numbers(draw, items) for pair, items in bodies.items()}


def deep_items(draw, order, at, depth, commands):
    """Six items of the stroke at a place of the order, which go to strokes ahead of it."""
    items = []
    while len(items) < 6:
        kind = draw.random()
        if depth and kind < 0.5:
            number = draw.choice((2, 3, 7, NUMBER, NUMBER - 1))
            items.append(("times", number, deep_items(draw, order, at, depth - 1, commands)))
        elif at == 0 or kind < 0.65 or len(items) == 5:
            items.append(("say", draw.choice(commands)))
        else:
            mode, key = order[draw.randrange(max(0, at - 3), at)]
            items += [("go", mode), ("press", key)]
    return items


def deep_bodies(draw, modes, commands):
    """Plain bodies for all six keys in so many modes, each stroke above the ones before."""
    order = [(mode, key) for key in KEYS for mode in MODES[:modes]]
    return {pair: deep_items(draw, order, at, 2, commands) for at, pair in enumerate(order)}, order


class Great(unittest.TestCase):

    def setUp(self):
        self.began = time.perf_counter()

    def within(self, seconds):
        self.assertLess(time.perf_counter() - self.began, seconds)

    def same(self, found, told, draw):
        """The outcome is the one that is told by trees."""
        front, ring, end = told
        if ring is None:
            self.assertIs(type(found), Ends)
            self.assertEqual((found.row.size, found.state), (plaingreat.size(front), end))
            self.words(found.row, front, draw)
            return
        self.assertIs(type(found), Never)
        before, again = plaingreat.size(front), plaingreat.size(ring[0])
        if again == 0:
            self.assertEqual((found.front.size, found.ring.size), (before, 0))
            self.words(found.front, front, draw)
            return
        self.assertGreater(found.ring.size, 0)
        for _ in range(30):
            at = draw.choice((draw.randrange(before + again), draw.randrange(10 * (before + again)), 10 ** 1000 + draw.randrange(10 ** 9)))
            word = front.word(at) if at < before else ring[0].word((at - before) % again)
            self.assertEqual(found.command_at(at), word)

    def words(self, row, node, draw):
        """The row says what the tree says, at many places."""
        size = row.size
        for at in {0, size - 1, size // 2, *[draw.randrange(size) for _ in range(30 if size else 0)]}:
            if 0 <= at < size:
                self.assertEqual(row[at], node.word(at))

    def test_powers_of_powers(self):
        book = Book("m", [], {("m", "k"): Body(Times(NUMBER, Times(NUMBER, Say("x"), Say("y")), Say("z")))})
        row = (Row("x", "y") * NUMBER + Row("z")) * NUMBER
        self.assertEqual(stroke(book, "m", "k"), Ends(row, "m"))
        self.assertEqual(stroke(book + book, ("m", "m"), "k"), Ends(Row(), ("m", "m")))

    def test_going_through_modes_by_remainders(self):
        for many in range(1, 7):
            modes = MODES[:many]
            for number in (0, 1, 2, 5, 6, 7, 13, NUMBER, NUMBER - 1, NUMBER - 5):
                # Each press goes to the next mode and says the old one.
                bodies = {(mode, "step"): Body(Say(mode), Go(modes[(at + 1) % many])) for at, mode in enumerate(modes)}
                bodies["a", "k"] = Body(Times(number, Press("step")))
                bodies["a", "l"] = Body(Times(number, Times(number, Press("step")), Say("x")))
                book = Book("a", [], bodies)
                turn = Row.of(modes)
                row = turn * (number // many) + turn.part(0, number % many)
                self.assertEqual(stroke(book, "a", "k"), Ends(row, modes[number % many]))
                row = Row()
                at = 0
                for _ in range(min(number, many)):
                    row = row + (Row.of(modes[at:] + modes[:at]) * (number // many + 1)).part(0, number) + Row("x")
                    at = (at + number) % many
                if number > many:
                    row = row * (number // many) + row.part(0, number % many * (number + 1))
                self.assertEqual(stroke(book, "a", "l"), Ends(row, modes[number * number % many]))

    def test_modes_that_lead_into_a_ring_of_modes(self):
        for ahead in range(6):
            steps = [min(at + 1, 6) for at in range(6)]
            steps[5] = ahead
            bodies = {(MODES[at], "step"): Body(Say("w" + MODES[at]), Go(MODES[steps[at]])) for at in range(6)}
            for number in (0, 3, 5, 6, 7, 11, 12, NUMBER, NUMBER - 3):
                bodies["a", "k"] = Body(Times(number, Press("step")), Say("end"))
                ring = [f"w{mode}" for mode in MODES[ahead:]]
                front = [f"w{mode}" for mode in MODES[:ahead]]
                row = (Row.of(front) + Row.of(ring) * (number // len(ring) + 1)).part(0, number) + Row("end")
                mode = MODES[number] if number < ahead else MODES[ahead + (number - ahead) % len(ring)]
                self.assertEqual(stroke(Book("a", [], bodies), "a", "k"), Ends(row, mode))

    def test_keys_that_press_keys_through_repetitions(self):
        inner = Times(NUMBER, Press("l"), Times(NUMBER, Press("n"), Say("y")))
        book = Book("m", [], {
            ("m", "k"): Body(inner, inner), ("m", "l"): Body(Times(NUMBER, Times(2, Press("n")))), ("m", "n"): Body(Say("x"), Say("x"))})
        two = Row("x", "x")
        row = (two * (2 * NUMBER) + (two + Row("y")) * NUMBER) * (2 * NUMBER)
        self.assertEqual(stroke(book, "m", "k"), Ends(row, "m"))

    def test_drawn_books(self):
        draw = plain.drawing(121)
        seen = {Ends: 0, Never: 0}
        for _ in range(500):
            keys, modes = KEYS[:draw.randint(1, 5)], MODES[:draw.randint(1, 5)]
            bodies = great_bodies(draw, modes, keys, plainplay.COMMANDS)
            book = plainplay.book_of(bodies, "a", ["a"])
            for mode in book.modes:
                for key in keys:
                    found = stroke(book, mode, key)
                    seen[type(found)] += 1
                    told = plaingreat.stroke([bodies], (mode,), key)
                    self.same(found, told if told[1] is not None else (told[0], None, told[2][0]), draw)
                    self.assertIs(loop_of(book, mode, key) is None, found.is_end)
        self.assertTrue(min(seen.values()) > 100, seen)

    def test_drawn_books_as_sums(self):
        draw = plain.drawing(122)
        for _ in range(150):
            keys, modes = KEYS[:draw.randint(1, 4)], MODES[:draw.randint(1, 3)]
            bodies = great_bodies(draw, modes, keys, plainplay.COMMANDS[:draw.randint(1, 3)])
            book = plainplay.book_of(bodies, "a", ["a"])
            for mode in book.modes:
                front, ring, _ = plaingreat.stroke([bodies], (mode,), keys[-1])
                found = stroke(book, mode, keys[-1])
                if ring is None:
                    self.assertEqual(letters(found.row), letters(plaingreat.row_of(front)))
                else:
                    self.assertEqual(found, Never(plaingreat.row_of(front), plaingreat.row_of(ring[0])))

    def test_drawn_chains(self):
        draw = plain.drawing(123)
        seen = {Ends: 0, Never: 0}
        for _ in range(250):
            many = draw.choice((2, 3))
            keys, modes = KEYS[:draw.randint(1, 4)], MODES[:draw.randint(1, 3)]
            chosen = [great_bodies(draw, modes, keys, keys) for _ in range(many - 1)] + [great_bodies(draw, modes, keys, plainplay.COMMANDS)]
            books = [plainplay.book_of(bodies, "a", ["a"]) for bodies in chosen]
            chain = Chain.of(books)
            states = list(itertools.product(*[book.modes for book in books]))
            for state in draw.sample(states, min(4, len(states))):
                for key in keys:
                    found = stroke(chain, state, key)
                    seen[type(found)] += 1
                    self.same(found, plaingreat.stroke(chosen, state, key), draw)
        self.assertTrue(min(seen.values()) > 50, seen)

    def test_chains_by_remainders(self):
        one = Book("a", [], {("a", "k"): Body(Times(NUMBER, Times(NUMBER, Say("step")), Say("other")))})
        for many in range(1, 7):
            modes = MODES[:many]
            two = Book("a", [], {(mode, "step"): Body(Say("w" + mode), Go(modes[(at + 1) % many])) for at, mode in enumerate(modes)})
            two |= {("a", "other"): Body(Say("x"))}
            turns, at, row = [], 0, Row()
            ring = Row.of(["w" + mode for mode in modes])
            for _ in range(many):
                turn = ring.part(at, many - at) + ring * (NUMBER // many) + ring
                at = (at + NUMBER) % many
                turns.append(turn.part(0, NUMBER) + (Row("x") if at == 0 else Row()))
                row = row + turns[-1]
            row = row * (NUMBER // many)
            for turn in turns[:NUMBER % many]:
                row = row + turn
            state = ("a", modes[NUMBER * NUMBER % many])
            self.assertEqual(stroke(one + two, ("a", "a"), "k"), Ends(row, state))

    def test_chains_multiply(self):
        book = Book("a", [], {("a", "k"): Body(Times(NUMBER, Times(NUMBER, Say("k"))))})
        self.assertEqual(stroke(book + book, ("a", "a"), "k"), Ends(Row("k") * NUMBER ** 4, ("a", "a")))
        self.assertEqual(stroke(book + book + book, ("a",) * 3, "k"), Ends(Row("k") * NUMBER ** 6, ("a",) * 3))

    def test_the_greatest_rows(self):
        order = [(mode, key) for key in KEYS for mode in MODES]
        bodies = {}
        for at, (mode, key) in enumerate(order):
            items = [Say("x")] * 6
            if at > 0:
                items = [Go(order[at - 1][0]), Press(order[at - 1][1])] * 3
            bodies[mode, key] = Body(*[Times(NUMBER, *[Times(NUMBER, *items)] * 6)] * 6)
        book = Book("a", [], bodies)
        for at, (mode, key) in enumerate(order):
            found = stroke(book, mode, key)
            self.assertEqual(found.row, Row("x") * (6 ** 3 * NUMBER ** 2 * (3 * 36 * NUMBER ** 2) ** at))
        self.assertGreater(found.row.size, 10 ** 700)
        self.assertLess(found.row.size, 10 ** 800)
        other = Book("a", [], {(mode, "x"): Body(Say(mode), Go(MODES[(at + 1) % 6])) for at, mode in enumerate(MODES)})
        two = stroke(book + other, ("f", "a"), "kf")
        many = found.row.size
        self.assertEqual(two, Ends(Row.of(MODES) * (many // 6) + Row.of(MODES).part(0, many % 6), ("a", MODES[many % 6])))
        self.assertEqual(stroke(book + book, ("f", "a"), "kf"), Ends(Row(), ("a", "a")))
        bodies = {("a", "x"): bodies["a", "ka"]}
        self.assertEqual(stroke(book + Book("a", [], bodies), ("f", "a"), "kf").row.size, many * 216 * NUMBER ** 2)
        self.within(30)

    def test_the_greatest_rows_of_many_letters(self):
        draw = plain.drawing(124)
        for _ in range(3):
            bodies, order = deep_bodies(draw, 6, ("x", "y", "z"))
            book = plainplay.book_of(bodies, "a", ["a"])
            mode, key = order[-1]
            found = stroke(book, mode, key)
            self.assertGreater(found.row.size, 10 ** 250)
            node, _, end = plaingreat.stroke([bodies], (mode,), key)
            self.same(found, (node, None, end[0]), draw)
            self.assertEqual(sum(times_in(found.row, [word]) for word in "xyz"), found.row.size)
        self.within(30)

    def test_many_small_calls(self):
        book = Book("m", ["m"], {("m", "a"): Body(Times(NUMBER, Press("b"))), ("m", "b"): Body(Say("x"), Go("n")),
                                 ("n", "b"): Body(Say("y"), Go("m")), ("m", "c"): Body(Say("z"), Press("c"))})
        for _ in range(2000):
            self.assertEqual(stroke(book, "m", "a").state, "m")
            self.assertFalse(stroke(book, "m", "c").is_end)
        self.within(20)

    def test_the_greatest_rings(self):
        draw = plain.drawing(125)
        bodies, order = deep_bodies(draw, 6, ("x", "y", "z"))
        # The first stroke of all, which all others come to, begins the last one.
        bodies[order[0]] = [("say", "w"), ("go", order[-1][0]), ("press", order[-1][1])]
        book = plainplay.book_of(bodies, "a", ["a"])
        for mode, key in (order[-1], order[20], order[0]):
            found = stroke(book, mode, key)
            self.same(found, plaingreat.stroke([bodies], (mode,), key), draw)
            self.assertEqual(found, stroke(book.copied(), mode, key))
            path = loop_of(book, mode, key)
            self.assertEqual(path[0], (mode, key))
            self.assertEqual(len(set(path)), len(path) - 1)
            self.assertIn(path[-1], path[:-1])
        self.within(30)

    def test_the_greatest_chains(self):
        draw = plain.drawing(126)
        for sizes in ((6, 6), (3, 3, 4), (6, 6, 1)):
            chosen = [deep_bodies(draw, size, KEYS)[0] for size in sizes[:-1]] + [deep_bodies(draw, sizes[-1], ("x", "y", "z"))[0]]
            chain = Chain.of([plainplay.book_of(bodies, "a", ["a"]) for bodies in chosen])
            state = tuple(MODES[size - 1] for size in sizes)
            found = stroke(chain, state, "kf")
            self.assertGreater(found.row.size, 10 ** 300)
            self.same(found, plaingreat.stroke(chosen, state, "kf"), draw)
        self.within(60)


if __name__ == "__main__":
    unittest.main()
