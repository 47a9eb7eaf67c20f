"""Great smallest books [42], and systems of 36 states; all within seconds."""

import time
import unittest

from onestroke.bodies import Body, Go, Press, Say, Times
from onestroke.books import Book, Chain
from onestroke.certain import alive, certain, certificate, is_certificate
from onestroke.comparing import delays, is_delays, parted
from onestroke.limits import NUMBER
from onestroke.pressing import endless_row, row_to, run, states
from onestroke.rows import Row
from onestroke.smallest import apart, smallest
from test_great_strokes import KEYS, deep_bodies, great_bodies
import plain
import plainplay
import wheels


def pressing_on(first, mode="m", loops=()):
    """Six keys each of which presses the next one 10 ** 18 times; the last one says x."""
    names = "abcdef"
    book = Book(first, ["o"])
    for key, after in zip(names, names[1:]):
        book[mode, key] = Body(Times(NUMBER, Times(NUMBER, Press(after))), Say("y"))
    book[mode, "f"] = Body(Say("x"))
    for pair, body in loops:
        book[pair] = body
    return book


def powers():
    """What the six keys say, the last one first."""
    rows = [Row("x")]
    for _ in range(5):
        rows.append(rows[-1] * 10 ** 18 + Row("y"))
    return rows


class Great(unittest.TestCase):

    def setUp(self):
        self.began = time.perf_counter()

    def tearDown(self):
        self.assertLess(time.perf_counter() - self.began, 60)

    def test_keys_that_press_the_next_one(self):
        book = pressing_on("m", loops=[(("m", "f"), Body(Say("x")))])
        book.set_rest(["m"])
        small = smallest(book)
        self.assertEqual((small.size, small.rest, small.head), (1, (0,), Row()))
        for key, row in zip("fedcba", powers()):
            self.assertEqual(small.step(0, key), (row, 0))
        self.assertEqual(small.commands(list("abcdef") * 100), (powers()[5] + powers()[4] + powers()[3] + powers()[2] + powers()[1] + Row("x")) * 100)

    def test_a_way_out_behind_great_rows(self):
        rows = powers()
        book = pressing_on("n", "m")
        # From n each way begins with the row of the second key; at m all begin with x.
        book["n", "a"] = Body(Go("m"), Press("b"), Go("o"))
        book["n", "b"] = Body(Go("m"), Press("b"), Press("c"), Go("o"))
        book["n", "c"] = Body(Go("m"), Press("b"), Press("f"), Go("n"))
        small = smallest(book)
        self.assertEqual(small.head, rows[4])
        self.assertEqual([small.step(0, key) for key in "ab"], [(Row(), 1), (rows[3], 1)])
        # Behind the third key the row comes once more; what is certain then is handed over.
        self.assertEqual(small.step(0, "c"), (Row("x") + rows[4], 0))
        self.assertEqual(small.commands(["c", "c", "b"]), (rows[4] + Row("x")) * 2 + rows[4] + rows[3])
        self.assertTrue(is_certificate(book, certificate(book)))

    def test_loops_ahead_of_great_rows(self):
        rows = powers()
        for at, key in enumerate("fedcb"):
            book = pressing_on("n", "m")
            # A loop that says one more turn of what the way out says a great number of times.
            book["n", "a"] = Body(Go("m"), Press(key), Go("n"))
            book["n", "b"] = Body(Go("m"), Times(NUMBER, Times(NUMBER, Press(key))), Go("o"), Say("z"))
            small = smallest(book)
            self.assertEqual(small.head, rows[at] * 10 ** 18)
            self.assertEqual(small.step(0, "b"), (Row("z"), 1))
            self.assertEqual(small.step(0, "a"), (rows[at], 0))
            self.assertEqual(small.commands(["a"] * 7 + ["b"]), rows[at] * (10 ** 18 + 7) + Row("z"))
            self.assertEqual(certain(book)["n"], rows[at] * 10 ** 18)
            self.assertTrue(is_certificate(book, certificate(book)))
            chain = book + Book("m", ["m"], {("m", word): Body(Say(word)) for word in "xyz"})
            self.assertEqual(smallest(chain), small)
            late = book.copied()
            late["n", "b"] = Body(Go("p"))
            late["p", "c"] = Body(Go("m"), Times(NUMBER, Times(NUMBER, Press(key))), Go("o"), Say("z"))
            self.assertEqual(smallest(late).head, rows[at] * 10 ** 18)
            self.assertEqual(parted(book, late), ["b"])

    def test_wheels_of_36_states(self):
        for one, other in ((6, 6), (6, 5), (4, 6)):
            many = one * other
            chain, again = wheels.turning(one, other), wheels.written_otherwise(one, other)
            small = smallest(chain)
            self.assertEqual((small.size, small.rest, small.bound), (many, (0,), ("t",)))
            self.assertEqual(small, smallest(again))
            # The word is certain from the start on, as nothing counts before the wheels have turned.
            self.assertEqual(small.head, Row())
            self.assertEqual([small.step(at, "t") for at in range(many)], [(Row("x") if at == 0 else Row(), (at + 1) % many) for at in range(many)])
            found = apart(chain)
            self.assertEqual(len(found), many * (many - 1) // 2)
            self.assertEqual(found[0, 1], [])
            self.assertEqual(found[many - 2, many - 1], ["t"])
            self.assertEqual(found[1, 2], ["t"] * (many - 2))
            self.assertEqual(certain(chain)["n", "m"], Row("x"))
            self.assertTrue(is_certificate(chain, certificate(chain)))
            self.assertNotEqual(small, smallest(wheels.turning(one, other, last="y")))
            self.assertNotEqual(small, smallest(wheels.turning(one, other - 1)))

    def test_wheels_with_two_keys(self):
        chain = wheels.both(6, 6)
        small = smallest(chain)
        self.assertEqual((small.size, len(small.bound)), (36, 2))
        found = apart(chain)
        self.assertEqual(len(found), 630)
        self.assertLess(max(len(keys) for keys in found.values()), 36)

    def test_the_greatest_systems_that_are_drawn(self):
        draw = plain.drawing(361)
        for kind in range(4):
            if kind < 2:
                sizes = (6,) if kind == 0 else (6, 6)
                books = [deep_bodies(draw, many, KEYS if at + 1 < len(sizes) else ("x", "y"))[0] for at, many in enumerate(sizes)]
            else:
                books = [great_bodies(draw, "abcdef"[:many], KEYS, KEYS) for many in (3, 3, 4)]
            made = [plainplay.book_of(bodies, "a", ("a", "c")) for bodies in books]
            system = made[0] if len(made) == 1 else Chain.of(made)
            began = time.perf_counter()
            small, proof, table = smallest(system), certificate(system), delays(system, system)
            self.assertEqual([proof[state][0] for state in alive(system)], list(certain(system).values()))
            self.assertTrue(is_certificate(system, proof))
            self.assertTrue(is_delays(system, system, table))
            self.assertEqual(len(apart(system)), small.size * (small.size - 1) // 2)
            for key in system.bound:
                found = run(system, [key])
                if found.is_end and found.state in proof:
                    self.assertEqual(small.head + small.step(0, key)[0], found.row + proof[found.state][0])
            endless_row(system), [row_to(system, state) for state in states(system)[:3]]
            self.assertLess(time.perf_counter() - began, 60)


if __name__ == "__main__":
    unittest.main()
