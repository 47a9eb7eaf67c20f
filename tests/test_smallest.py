"""The smallest book [42]: by hand, and of drawn systems against the plain play."""

import unittest

from onestroke.bodies import Body, Go, Press, Say, Times
from onestroke.books import Book
from onestroke.comparing import parted
from onestroke.errors import OutOfRange
from onestroke.rows import Row, letters
from onestroke.smallest import Small, apart, smallest
from values import NO_INTEGERS, refused
import plain
import plainsystem
import plainvariants


def words(row):
    return list(row.listed())


def example():
    return Book("m", ["m"], {
        ("m", "k"): Body(Go("n")), ("n", "a"): Body(Say("x"), Say("y"), Go("m")), ("n", "b"): Body(Say("x"), Say("z"), Go("m"))})


def told(small):
    """All that a smallest book tells."""
    steps = {}
    for number in range(small.size):
        for key in small.bound:
            found = small.step(number, key)
            steps[number, key] = found if found is None else (tuple(words(found[0])), found[1])
    return tuple(words(small.head)), small.size, small.rest, small.bound, steps


def plain_small(system):
    """The same of a plain system, by [42]."""
    certain = system.certain()
    if system.first not in certain:
        return (), 0, (), (), {}
    steps = {}
    for state in certain:
        for key in system.bound:
            said, _, after = system.stroke(state, key)
            if after in certain:
                steps[state, key] = (tuple((said + certain[after])[len(certain[state]):]), after)
    kinds = {state: system.is_rest(state) for state in certain}
    while True:
        finer = {state: (kinds[state],) + tuple(
            (steps[state, key][0], kinds[steps[state, key][1]]) if (state, key) in steps else None for key in system.bound) for state in certain}
        names = sorted(set(finer.values()), key=repr)
        finer = {state: names.index(finer[state]) for state in certain}
        if len(set(finer.values())) == len(set(kinds.values())):
            break
        kinds = finer
    numbers = {kinds[system.first]: 0}
    order = [system.first]
    for state in order:
        for key in system.bound:
            if (state, key) in steps and kinds[steps[state, key][1]] not in numbers:
                numbers[kinds[steps[state, key][1]]] = len(numbers)
                order.append(steps[state, key][1])
    found = {}
    for state in order:
        for key in system.bound:
            step = steps.get((state, key))
            found[numbers[kinds[state]], key] = None if step is None else (step[0], numbers[kinds[step[1]]])
    bound = tuple(key for key in system.bound if any(found[number, key] != ((), number) for number in range(len(order))))
    rest = tuple(sorted(numbers[kinds[state]] for state in order if system.is_rest(state)))
    return tuple(certain[system.first]), len(order), rest, bound, {pair: step for pair, step in found.items() if pair[1] in bound}


class ByHand(unittest.TestCase):

    def test_example(self):
        book = example()
        small = smallest(book)
        found = [small.size, small.rest, letters(small.step(0, "k")[0]), letters(small.step(1, "a")[0]), small.step(0, "a")[1], apart(book)]
        self.assertEqual(found, [2, (0,), ["x"], ["y"], 0, {(0, 1): []}])
        self.assertEqual((small.bound, small.head), (("a", "b", "k"), Row()))
        self.assertEqual(small.step(1, "k"), (Row(), 1))
        self.assertEqual(small.step(number=1, key="nokey"), (Row(), 1))
        self.assertEqual(small.commands(["k", "a", "nokey", "k", "b"]), Row("x", "y", "x", "z"))
        self.assertIsNone(small.commands(("k", "a", "k")))
        self.assertEqual(small.commands(pressed=[]), Row())

    def test_heads(self):
        book = Book("m", ["n"], {("m", "a"): Body(Say("x"), Say("y"), Go("n")), ("m", "b"): Body(Say("x"), Say("y"), Say("z"), Go("n"))})
        small = smallest(book)
        self.assertEqual(told(small), (("x", "y"), 2, (1,), ("a", "b"), {
            (0, "a"): ((), 1), (0, "b"): (("z",), 1), (1, "a"): ((), 1), (1, "b"): ((), 1)}))
        self.assertEqual(small.commands(["b", "a"]), Row("x", "y", "z"))
        self.assertIsNone(small.commands([]))
        self.assertEqual(apart(book), {(0, 1): []})

    def test_lost_keys(self):
        book = Book("m", ["m"], {
            ("m", "a"): Body(Say("x"), Press("a")), ("m", "b"): Body(Say("x"), Go("dead")), ("m", "c"): Body(Say("y")), ("m", "d"): Body(Go("m"))})
        small = smallest(book)
        self.assertEqual(told(small), ((), 1, (0,), ("a", "b", "c"), {(0, "a"): None, (0, "b"): None, (0, "c"): (("y",), 0)}))
        self.assertIsNone(small.commands(["c", "b"]))
        self.assertIsNone(small.commands(["a"]))
        self.assertEqual(small.commands(["d", "c", "d"]), Row("y"))
        self.assertEqual(apart(book), {})

    def test_keys_that_do_nothing_anywhere(self):
        book = Book("m", ["m", "n"], {("m", "a"): Body(Say("x"), Go("n")), ("n", "a"): Body(Say("x"), Go("m")), ("n", "b"): Body(Go("m")), ("m", "b"): Body()})
        # Both modes do the same, so that going from one to the other is nothing.
        self.assertEqual(told(smallest(book)), ((), 1, (0,), ("a",), {(0, "a"): (("x",), 0)}))
        self.assertEqual(smallest(book), smallest(Book("z", ["z"], {("z", "a"): Body(Say("x"))})))
        self.assertEqual(told(smallest(Book("m", ["m"]))), ((), 1, (0,), (), {}))

    def test_nothing_counts(self):
        for system in (Book("m"), Book("m", ["n"], {("m", "a"): Body(Say("x"))}), Book("m", ["m"]) + Book("m"), Book("m", ["n"], {("n", "a"): Body()})):
            small = smallest(system)
            self.assertEqual(told(small), ((), 0, (), (), {}))
            self.assertIsNone(small.commands([]))
            self.assertIsNone(small.commands(["a"]))
            refused(self, OutOfRange, {"value": 0}, lambda: small.step(0, "a"))
            self.assertEqual(apart(system), {})
            self.assertEqual(small, smallest(Book("q", [])))

    def test_the_order_of_the_numbers(self):
        bodies = {("m", "b"): Body(Go("n")), ("m", "c"): Body(Go("o")), ("n", "a"): Body(Go("p")), ("o", "a"): Body(Go("q")), ("p", "d"): Body(Say("x")),
                  ("q", "d"): Body(Say("y")), ("n", "d"): Body(Say("z")), ("o", "d"): Body(Say("u")), ("m", "a"): Body(Go("r")), ("r", "d"): Body(Say("v"))}
        small = smallest(Book("m", list("mnopqr"), bodies))
        self.assertEqual([small.step(0, key)[1] for key in "abc"], [1, 2, 3])
        self.assertEqual([words(small.step(number, "d")[0]) for number in range(6)], [[], ["v"], ["z"], ["u"], ["x"], ["y"]])

    def test_numbers_that_are_none(self):
        small = smallest(example())
        for value in NO_INTEGERS + (-1, 2, 10 ** 99, -10 ** 99):
            refused(self, OutOfRange, {"value": value}, lambda: small.step(value, "a"))
            refused(self, OutOfRange, {"value": value}, lambda: small.step(value, "nokey"))

    def test_nothing_changes(self):
        book = example()
        small, other = smallest(book), smallest(book)
        before = told(small)
        pressed = ["k", "a"]
        row = small.commands(pressed)
        row += Row("q")
        book["m", "a"] = Body(Say("q"))
        found = apart(book)
        for keys in found.values():
            keys.append("q")
        self.assertEqual(pressed, ["k", "a"])
        self.assertEqual((told(small), small), (before, other))
        self.assertNotEqual(smallest(book), small)
        self.assertNotEqual(apart(book), found)
        for name in ("head", "size", "rest", "bound"):
            with self.assertRaises(AttributeError):
                setattr(small, name, 1)

    def test_equal(self):
        small = smallest(example())
        self.assertTrue(isinstance(small, Small) and small == smallest(example()))
        for value in NO_INTEGERS + (2, small.head, example(), [small]):
            self.assertFalse(small == value)
        others = [
            Book("m", ["n"], {("m", "k"): Body(Go("n"))}), Book("m", ["m"], {("m", "k"): Body(Go("n")), ("n", "k"): Body(Go("m"))}),
            Book("m", ["m"], {("m", "k"): Body(Say("x"))}), Book("m", ["m"], {("m", "l"): Body(Say("x"))}), Book("m", ["m"], {("m", "k"): Body(Say("y"))}),
            Book("m", ["m"], {("m", "k"): Body(Press("k"))}), Book("m", ["n"], {("m", "k"): Body(Say("x"), Go("n"))}), Book("m"), Book("m", ["m"]), example()]
        for one in others:
            for other in others:
                self.assertEqual(smallest(one) == smallest(other), one is other)
                self.assertEqual(smallest(one) != smallest(other), one is not other)


class Drawn(unittest.TestCase):

    def system(self, draw):
        return plainsystem.some_system(draw) if draw.random() < 0.5 else plainsystem.late_system(draw)

    def test_all_that_it_tells(self):
        draw = plain.drawing(351)
        sizes = []
        for _ in range(500):
            system = self.system(draw)
            small = smallest(system.made())
            self.assertEqual(told(small), plain_small(system), system.books)
            sizes.append(small.size)
        self.assertGreater(len(set(sizes)), 6)

    def test_commands_of_all_short_rows(self):
        draw = plain.drawing(352)
        for _ in range(100):
            system = self.system(draw)
            small = smallest(system.made())
            certain = system.certain()
            for keys in plainsystem.lists_of(system.bound + ("nokey",), 4 if len(system.bound) < 3 else 3):
                expected = system.counted(keys)
                found = small.commands(keys)
                self.assertEqual(found if found is None else words(found), expected)
                said, _, end = system.run(keys)
                self.assertEqual(self.handed(small, keys), said + certain[end] if end in certain and system.first in certain else None)

    def handed(self, small, keys, number=0, head=True):
        """What is handed over behind a list of keys, None if it is lost."""
        if small.size == 0:
            return None
        found = words(small.head) if head else []
        for key in keys:
            step = small.step(number, key)
            if step is None:
                return None
            found, number = found + words(step[0]), step[1]
        return found

    def counted(self, small, keys, number):
        """The same if it counts."""
        end = number
        for key in keys:
            step = small.step(end, key)
            if step is None:
                return None
            end = step[1]
        return self.handed(small, keys, number, False) if end in small.rest else None

    def test_equal_exactly_if_alike(self):
        draw = plain.drawing(353)
        alike = 0
        for _ in range(400):
            one = self.system(draw)
            other = plainvariants.variant(draw, one)
            if draw.random() < 0.5:
                other = plainvariants.one_change(draw, other)
            mine, yours = smallest(one.made()), smallest(other.made())
            same = parted(one.made(), other.made()) is None
            alike += same
            self.assertEqual(mine == yours, same)
            self.assertEqual(told(mine) == told(yours), same)
            if same:
                self.assertEqual(apart(one.made()), apart(other.made()))
                # No system that is alike has fewer alive states that are reached.
                for system in (one, other):
                    reached = {state for keys in plainsystem.lists_of(system.bound, 6 if len(system.bound) < 3 else 4)
                               for state in [system.run(keys)[2]] if state in system.alive()}
                    self.assertTrue(len(reached) >= mine.size or len(system.states) > 5)
        self.assertGreater(alike, 100)

    def test_apart(self):
        draw = plain.drawing(354)
        sizes = []
        for _ in range(200):
            system = self.system(draw)
            small, found = smallest(system.made()), apart(system.made())
            self.assertEqual(set(found), {(one, other) for one in range(small.size) for other in range(one + 1, small.size)})
            for (one, other), keys in found.items():
                self.assertIs(type(keys), list)
                self.assertNotEqual(self.counted(small, keys, one), self.counted(small, keys, other))
                sizes.append(len(keys))
                for shorter in plainsystem.lists_of(small.bound, min(3, len(keys) - 1)):
                    self.assertEqual(self.counted(small, shorter, one), self.counted(small, shorter, other))
        self.assertGreater(max(sizes), 2)


if __name__ == "__main__":
    unittest.main()
