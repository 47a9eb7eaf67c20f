"""Great delays, and systems that differ behind many keys alone [32], [33]."""

import time
import unittest

from onestroke.bodies import Body, Go, Press, Say, Times
from onestroke.books import Book, Chain
from onestroke.comparing import are_alike, delays, is_delays, parted
from onestroke.limits import NUMBER
from onestroke.pressing import counts, run, states
from onestroke.rows import Row
from onestroke.smallest import smallest
import plain
import wheels


def so_many(number, *items):
    """An item that does items a great number of times, up to 10 ** 18 times."""
    if number <= NUMBER:
        return Times(number, *items)
    assert number % NUMBER == 0
    return Times(number // NUMBER, Times(NUMBER, *items))


class Great(unittest.TestCase):

    def setUp(self):
        self.began = time.perf_counter()

    def tearDown(self):
        self.assertLess(time.perf_counter() - self.began, 60)

    def two_strokes(self, first, second, more=()):
        """The first stroke says some items and goes on, the second one says others and goes back."""
        bodies = {("m", "a"): Body(*first, Go("n")), ("n", "b"): Body(*second, Go("m")), ("n", "c"): Body(*second, Say("z"), Go("m"))}
        for pair, body in more:
            bodies[pair] = body
        return Book("m", ["m"], bodies)

    def test_commands_of_the_first_stroke_or_of_the_second_one(self):
        for number in (1, 1000, NUMBER, 10 ** 18):
            said = so_many(number, Say("x"), Say("y"))
            early, late = self.two_strokes([said], []), self.two_strokes([], [said])
            row = Row("x", "y") * number
            self.assertTrue(are_alike(early, late))
            self.assertEqual(delays(early, late), {("m", "m"): (Row(), Row()), ("n", "n"): (row, Row())})
            self.assertEqual(delays(late, early), {("m", "m"): (Row(), Row()), ("n", "n"): (Row(), row)})
            table = {("m", "m"): (Row(), Row()), ("n", "n"): (row, Row())}
            self.assertTrue(is_delays(early, late, table))
            for wrong in (row + Row("x"), row.part(1, row.size - 1), row.part(0, row.size - 1), Row(), row * 10 ** 3000,
                          row.part(0, row.size // 2) + Row("q") + row.part(row.size // 2, row.size - row.size // 2)):
                self.assertFalse(is_delays(early, late, {**table, ("n", "n"): (wrong, Row())}))
            self.assertEqual(smallest(early), smallest(late))

    def test_one_command_more_or_less_or_another_one(self):
        for number in (3, NUMBER, 10 ** 18):
            half = so_many(number, Say("x"), Say("y"))
            early = self.two_strokes([half, half], [])
            same = self.two_strokes([], [half, half])
            self.assertIsNone(parted(early, same))
            for items in ([half, Say("x"), half], [half, half, Say("y")], [half, Say("y"), half], [Say("x"), half, half], [half, Times(1), half, Say("z")],
                          [half], [half, half, half], []):
                for wrong in (self.two_strokes([], items), self.two_strokes(items, [])):
                    self.assertEqual(parted(early, wrong), ["a", "b"])
                    self.assertEqual(parted(wrong, early), ["a", "b"])
                    self.assertIsNone(delays(early, wrong))
                    self.assertNotEqual(smallest(early), smallest(wrong))

    def test_numbers_of_ninety_digits(self):
        # Five keys each of which presses the next one 10 ** 18 times: 10 ** 90 and more commands.
        names = "defgh"

        def book(first, second):
            bodies = {}
            for mode in "mn":
                for key, following in zip(names, names[1:]):
                    bodies[mode, key] = Body(so_many(10 ** 18, Press(following)))
                bodies[mode, "h"] = Body(so_many(10 ** 18, Say("x")), Say("y"))
            bodies["m", "a"] = Body(*first, Go("n"))
            bodies["n", "a"] = Body(*second, Go("m"))
            return Book("m", ["m"], bodies)

        early, late = book([Press("d")], []), book([], [Press("d")])
        row = (Row("x") * 10 ** 18 + Row("y")) * 10 ** 72
        self.assertEqual(run(early, ["a"]).row, row)
        # At n the keys say the same, too, and come behind what is ahead: this is alike only if it is the same power.
        self.assertIsNone(parted(early, late))
        self.assertEqual(delays(early, late)["n", "n"], (row, Row()))
        for items in ([Press("d"), Say("x")], [Say("y"), Press("d")], [Press("d"), Press("h")], [Press("e")]):
            found = parted(early, book([], items))
            self.assertEqual(found, ["a", "a"])
        other = book([Press("d")], [Say("q")])
        self.assertEqual(parted(early, other), ["a", "a"])
        again = book([Press("d"), Say("q")], [])
        again["n", "a"] = Body(Go("m"))
        late["n", "a"] = Body(Press("d"), Say("q"), Go("m"))
        # Behind the q at the end of what is ahead no other key says the same.
        self.assertEqual(len(parted(again, late)), 3)

    def test_loops_with_a_delay(self):
        # A loop says the same as what is ahead, so that any number of turns keeps the delay.
        for number in (1, 5, NUMBER, 10 ** 18):
            ahead = so_many(number, Say("x"), Say("y"))
            one = self.two_strokes([ahead], [], [(("n", "l"), Body(Say("x"), Say("y")))])
            other = self.two_strokes([], [ahead], [(("n", "l"), Body(Say("x"), Say("y")))])
            self.assertIsNone(parted(one, other))
            self.assertEqual(delays(one, other)["n", "n"], (Row("x", "y") * number, Row()))
            other["n", "l"] = Body(Say("x"), Say("y"), Times(3, Say("x"), Say("y")))
            self.assertEqual(parted(one, other), ["a", "l", "b"])
            other["n", "l"] = Body(Say("y"), Say("x"))
            self.assertEqual(parted(one, other), ["a", "l", "b"])
            # What is ahead in the one is turned, so that the same loop is told otherwise.
            one = self.two_strokes([ahead, Say("x")], [], [(("n", "l"), Body(Say("y"), Say("x")))])
            other = self.two_strokes([], [ahead, Say("x")], [(("n", "l"), Body(Say("x"), Say("y")))])
            self.assertIsNone(parted(one, other))
            self.assertEqual(delays(one, other)["n", "n"], (Row("x", "y") * number + Row("x"), Row()))

    def test_far_inside_of_what_chains_say(self):
        for number in (10 ** 6, NUMBER, 10 ** 18):
            first = Book("m", ["m"], {
                ("m", "a"): Body(so_many(number, Press("b")), Go("n")), ("m", "b"): Body(Say("p"), Say("q")),
                ("n", "a"): Body(Say("r"), Go("m"))})
            second = Book("m", ["m", "n"], {("m", "p"): Body(Say("x")), ("m", "q"): Body(Say("y"), Say("x")), ("m", "r"): Body(Say("z"))})
            other = Book("m", ["m", "n"], {("m", "p"): Body(Say("x"), Say("y")), ("m", "q"): Body(Say("x")), ("m", "r"): Body(Say("z"))})
            self.assertIsNone(parted(first + second, first + other))
            # Behind the first r the other one says the words one by one again, but of q it says one less.
            other["m", "r"] = Body(Say("z"), Go("n"))
            other["n", "p"] = Body(Say("x"))
            other["n", "q"] = Body(Say("y"))
            other["n", "r"] = Body(Say("z"))
            one, wrong = first + second, first + other
            self.assertEqual(parted(one, wrong), ["a", "a", "b"])
            self.assertTrue(counts(one, ["a", "a", "b"]) and counts(wrong, ["a", "a", "b"]))
            self.assertEqual(run(one, ["a", "a", "b"]).parting(run(wrong, ["a", "a", "b"])), 3 * number + 1 + 2)
            other["n", "q"] = Body(Say("y"), Say("x"))
            self.assertIsNone(parted(first + second, first + other))


class Wheels(unittest.TestCase):

    def setUp(self):
        self.began = time.perf_counter()

    def tearDown(self):
        self.assertLess(time.perf_counter() - self.began, 60)

    def test_wheels_that_differ_behind_many_keys_alone(self):
        for one, other in ((6, 6), (6, 5), (5, 6), (4, 6), (3, 3)):
            chain = wheels.turning(one, other)
            self.assertEqual(len(states(chain)), one * other)
            self.assertIsNone(parted(chain, wheels.written_otherwise(one, other)))
            wrong = wheels.turning(one, other, last="y")
            self.assertEqual(parted(chain, wrong), ["t"] * (one * other))
            self.assertIsNone(delays(chain, wrong))
            table = delays(chain, wheels.written_otherwise(one, other))
            self.assertEqual(len(table), one * other)
            self.assertTrue(is_delays(chain, wheels.written_otherwise(one, other), table))
            for turned in ((one, other - 1), (one - 1, other)):
                found = parted(chain, wheels.turning(*turned))
                self.assertEqual(found, ["t"] * (turned[0] * turned[1]))

    def test_wheels_with_two_keys(self):
        for one, other in ((6, 6), (5, 6)):
            chain = wheels.both(one, other)
            self.assertIsNone(parted(chain, chain))
            found = parted(chain, wheels.both(one, other, at=1))
            self.assertIsNotNone(found)
            self.assertNotEqual(run(chain, found), run(wheels.both(one, other, at=1), found))
            self.assertTrue(counts(chain, found))


if __name__ == "__main__":
    unittest.main()
