"""Goals [31]: lists of keys with given commands, and how many, how short and how long those of a given length are."""

import time
import unittest

from onestroke.bodies import Body, Go, Press, Say, Times
from onestroke.books import Book
from onestroke.errors import OutOfRange, TooMany
from onestroke.goals import count_rows, fewest, keys_for, most
from onestroke.limits import NUMBER
from onestroke.pressing import counts, run
from onestroke.rows import Row
from values import NO_INTEGERS, refused
import plain
import plainsystem
import wheels


class Plainly:
    """How many lists of each length count, and how few and how many commands they have, by sums over states."""

    def __init__(self, system, most_keys):
        rest = [state for state in system.states if system.is_rest(state)]
        self.layers = [{state: (1, 0, 0) for state in rest}]
        for _ in range(most_keys):
            layer = {}
            for state in system.states:
                found = []
                for key in system.bound:
                    said, _, after = system.stroke(state, key)
                    if after in self.layers[-1]:
                        many, least, greatest = self.layers[-1][after]
                        found.append((many, least + len(said), greatest + len(said)))
                if found:
                    layer[state] = (sum(one[0] for one in found), min(one[1] for one in found), max(one[2] for one in found))
            self.layers.append(layer)

    def at(self, state, many):
        return self.layers[many].get(state)


class KeysFor(unittest.TestCase):

    def test_drawn_systems(self):
        draw = plain.drawing(401)
        none = some = 0
        for _ in range(150):
            system = plainsystem.some_system(draw)
            made = system.made()
            known = {}
            for keys in plainsystem.lists_of(system.bound, 4):
                said = system.counted(keys)
                if said is not None:
                    known.setdefault(tuple(said), len(keys))
            goals = set(known) | {()}
            for said in list(known)[:20]:
                goals |= {said[:-1], said + ("x",), said[:1] + ("y",) + said[1:], said[1:]}
            for goal in sorted(goals):
                found = keys_for(made, Row.of(goal))
                if goal in known:
                    self.assertIs(type(found), list)
                    self.assertEqual(len(found), known[goal], (system.books, goal))
                else:
                    self.assertTrue(found is None or len(found) > 4)
                if found is None:
                    none += 1
                else:
                    some += 1
                    self.assertEqual(system.counted(found), list(goal))
                    self.assertTrue(set(found) <= set(system.bound))
        self.assertGreater(none, 100)
        self.assertGreater(some, 500)

    def test_silent_loops(self):
        book = Book("m", ["o"], {
            ("m", "a"): Body(Go("n")), ("n", "a"): Body(Go("m")), ("n", "b"): Body(Go("o")), ("o", "a"): Body(Go("m")),
            ("o", "b"): Body(Say("x"), Go("p")), ("p", "a"): Body(Press("a"))})
        self.assertEqual(keys_for(book, Row()), ["a", "b"])
        self.assertIsNone(keys_for(book, Row("x")))
        book["p", "a"] = Body(Go("m"))
        self.assertEqual(keys_for(book, Row("x", "x", "x")), ["a", "b"] + ["b", "a", "a", "b"] * 3)

    def test_strokes_that_say_much(self):
        book = Book("m", ["m"], {("m", "a"): Body(Times(NUMBER, Say("x"))), ("m", "b"): Body(Times(7, Say("x"))), ("m", "c"): Body(Say("x"), Say("y"))})
        for many in range(201):
            found = keys_for(book, Row("x") * many)
            self.assertEqual(found, None if many % 7 else ["b"] * (many // 7))
        self.assertEqual(keys_for(book, Row("x") * 7 + Row("x", "y") * 90), ["b"] + ["c"] * 90)
        self.assertEqual(keys_for(system=book, goal=Row()), [])
        book.set_rest([])
        self.assertIsNone(keys_for(book, Row()))

    def test_goals_of_none_of_200_and_more(self):
        chain = Book("m", ["m"], {("m", "a"): Body(Say("x"))}) + Book("m", ["m"], {("m", "x"): Body(Say("y"))})
        self.assertEqual(keys_for(chain, Row("y") * 200), ["a"] * 200)
        self.assertIsNone(keys_for(chain, Row("x") * 200))
        for goal in (Row("y") * 201, Row("x") * 201, Row("y") * 10 ** 30, Row("y") * 10 ** 4000):
            refused(self, TooMany, {"limit": 200}, lambda: keys_for(chain, goal))

    def test_wheels(self):
        chain = wheels.turning(6, 6)
        for many in (0, 1, 2, 5):
            self.assertEqual(keys_for(chain, Row("x") * many), ["t"] * 36 * many)
        self.assertIsNone(keys_for(chain, Row("x", "y")))
        found = keys_for(wheels.both(6, 6), Row("y") * 6 + Row("x"))
        self.assertEqual(run(wheels.both(6, 6), found).row, Row("y") * 6 + Row("x"))
        self.assertTrue(counts(wheels.both(6, 6), found))


class Many(unittest.TestCase):

    def check(self, system, numbers, plainly):
        made = system.made()
        for many in numbers:
            expected = plainly.at(system.first, many)
            self.assertEqual(count_rows(made, many), 0 if expected is None else expected[0])
            for action, at in ((fewest, 1), (most, 2)):
                found = action(made, many)
                if expected is None:
                    self.assertIsNone(found)
                    continue
                self.assertIs(type(found), tuple)
                size, keys = found
                self.assertEqual((size, len(keys)), (expected[at], many), system.books)
                self.assertIs(type(keys), list)
                self.assertTrue(set(keys) <= set(system.bound))
                self.assertEqual(len(system.counted(keys)), size)

    def test_drawn_systems(self):
        draw = plain.drawing(402)
        for _ in range(120):
            system = plainsystem.some_system(draw)
            self.check(system, [0, 1, 2, 3, 4, draw.randint(5, 200)], Plainly(system, 200))

    def test_all_numbers(self):
        draw = plain.drawing(403)
        for _ in range(3):
            system = plainsystem.some_system(draw)
            self.check(system, range(201), Plainly(system, 200))

    def test_all_lists_of_keys(self):
        draw = plain.drawing(404)
        for _ in range(60):
            system = plainsystem.some_system(draw)
            for many in range(4):
                said = [system.counted(keys) for keys in plainsystem.lists_of(system.bound, many) if len(keys) == many]
                sizes = [len(row) for row in said if row is not None]
                self.assertEqual(count_rows(system.made(), many), len(sizes))
                found = [fewest(system.made(), many), most(system.made(), many)]
                self.assertEqual([one and one[0] for one in found], [min(sizes), max(sizes)] if sizes else [None, None])

    def test_great_numbers(self):
        book = Book("m", ["m"], {
            ("m", "a"): Body(Times(NUMBER, Times(NUMBER, Say("x")))), ("m", "b"): Body(Times(NUMBER, Say("x")), Go("n")), ("n", "b"): Body(Go("m")),
            ("n", "a"): Body(Press("a")), ("n", "c"): Body(Go("o"))})
        for many in (0, 1, 2, 3, 7, 200):
            size, keys = most(book, many)
            self.assertEqual((size, keys.count("a")), (NUMBER ** 2 * many, many))
            # At m the key c does nothing.
            self.assertEqual(fewest(book, many), (0, ["c"] * many))
        ways = [1, 0]
        for many in range(201):
            self.assertEqual(count_rows(book, many), ways[0])
            ways = [2 * ways[0] + ways[1], ways[0]]
        self.assertEqual(count_rows(wheels.turning(6, 6), 180), 1)
        self.assertEqual([fewest(wheels.turning(6, 6), many) for many in (180, 181)], [(5, ["t"] * 180), None])

    def test_books_without_keys(self):
        self.assertEqual([count_rows(Book("m", ["m"]), many) for many in (0, 1, 200)], [1, 0, 0])
        self.assertEqual([fewest(Book("m", ["m"]), many) for many in (0, 1)], [(0, []), None])
        self.assertEqual([most(Book("m"), many) for many in (0, 1)], [None, None])

    def test_numbers_out_of_range(self):
        for system in (Book("m", ["m"]), wheels.turning(3, 3)):
            for action in (count_rows, fewest, most):
                for value in NO_INTEGERS + (-1, 201, 10 ** 99):
                    refused(self, OutOfRange, {"value": value}, lambda: action(system, many=value))

    def test_lists_are_new(self):
        book = Book("m", ["m"], {("m", "a"): Body(Say("x"))})
        keys_for(book, Row("x")).append("q")
        fewest(book, 2)[1].append("q")
        self.assertEqual((keys_for(book, Row("x")), fewest(book, 2), most(book, 2)), (["a"], (2, ["a", "a"]), (2, ["a", "a"])))

    def test_time(self):
        began = time.perf_counter()
        for system in (wheels.both(6, 6), wheels.turning(6, 6)):
            count_rows(system, 200), fewest(system, 200), most(system, 200), keys_for(system, Row("y", "x") * 100)
        self.assertLess(time.perf_counter() - began, 20)


if __name__ == "__main__":
    unittest.main()
