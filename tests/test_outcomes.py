"""onestroke/strokes.py: outcomes, of any rows."""

import itertools
import unittest

from onestroke.errors import OutOfRange
from onestroke.limits import SIZE
from onestroke.rows import Row
from onestroke.strokes import Ends, Never, Outcome
from test_great import great_row
from values import NO_INTEGERS, refused
import plain
import plainplay

LISTS = [list(words) for size in range(4) for words in itertools.product("ab", repeat=size)]


def plain_parting(one, other):
    """The index of the first command that differs, for pairs (front, ring) of plain lists."""
    # If so many commands are alike, all are: the fronts are over, and both rings came as often as they need to.
    many = max(len(one[0]), len(other[0])) + 2 * (len(one[1]) + 1) * (len(other[1]) + 1)
    for index in range(many):
        first, second = plainplay.command(*one, index), plainplay.command(*other, index)
        if first != second:
            return index
    return None


class Outcomes(unittest.TestCase):

    def test_what_they_tell(self):
        for row in (Row(), Row("a"), Row("a", "b") * 10 ** 30):
            for state in ("m", ("m", "n"), ("m", "n", "o")):
                one = Ends(row, state)
                self.assertEqual((one.row, one.state, one.is_end), (row, state, True))
                self.assertEqual(one, Ends(row=row, state=state))
            for ring in (Row(), Row("b"), Row("b") * 10 ** 40):
                one = Never(row, ring)
                self.assertEqual((one.front, one.ring, one.is_end), (row, ring, False))
                self.assertEqual(one, Never(front=row, ring=ring))

    def test_all_short_fronts_and_rings(self):
        pairs = [(front, ring) for front in LISTS[:7] for ring in LISTS]
        made = [Never(Row.of(front), Row.of(ring)) for front, ring in pairs]
        for one, first in zip(pairs, made):
            for other, second in zip(pairs, made):
                index = plain_parting(one, other)
                self.assertEqual(first.parting(second), index, (one, other))
                self.assertIs(first == second, index is None)
                self.assertIs(first != second, index is not None)

    def test_drawn_fronts_and_rings(self):
        draw = plain.drawing(111)
        alike = 0
        for _ in range(1500):
            front = plain.some_words(draw, 12)[:draw.randint(0, 12)]
            ring = plain.some_words(draw, 8)[:draw.randint(0, 8)]
            other, again = list(front), ring * draw.randint(1, 3)
            for _ in range(draw.choice((0, 1, 3, 20)) if ring else 0):
                other, again = other + [again[0]], again[1:] + [again[0]]
            if draw.random() < 0.4:
                other = other + plain.some_words(draw, 3)[:draw.randint(0, 3)]
            if draw.random() < 0.2:
                again = again + plain.some_words(draw, 2)
            index = plain_parting((front, ring), (other, again))
            alike += index is None
            one, two = Never(Row.of(front), Row.of(ring)), Never(Row.of(other), Row.of(again))
            self.assertTrue(one.parting(two) == two.parting(one) == index)
            self.assertIs(one == two, index is None)
            self.assertIs(two == one, index is None)
        self.assertGreater(alike, 500)

    def test_ends_and_never(self):
        for front in LISTS:
            for other in LISTS:
                for ring in LISTS[:7]:
                    index = plain_parting((front, []), (other, ring))
                    end, never = Ends(Row.of(front), "m"), Never(Row.of(other), Row.of(ring))
                    self.assertTrue(end.parting(never) == never.parting(end) == index)
                    # They are never equal, even if their commands are.
                    self.assertIs(end == never, False)
                    self.assertIs(never == end, False)
                    self.assertIs(end != never, True)

    def test_ends(self):
        for front in LISTS:
            for other in LISTS:
                one = Ends(Row.of(front), "m")
                index = plain_parting((front, []), (other, []))
                self.assertEqual(one.parting(Ends(Row.of(other), "n")), index)
                self.assertIs(one == Ends(Row.of(other), "m"), front == other)
                self.assertIs(one == Ends(Row.of(other), "n"), False)
                self.assertIs(one == Ends(Row.of(other), ("m",)), False)
        self.assertEqual(Ends(Row("a"), ("m", "n")), Ends(Row("a"), ("m", "n")))
        self.assertFalse(Ends(Row("a"), ("m", "n")) == Ends(Row("a"), ("n", "m")))

    def test_commands(self):
        for front in LISTS:
            for ring in LISTS:
                one = Never(Row.of(front), Row.of(ring))
                for index in range(12):
                    word = plainplay.command(front, ring, index)
                    if word is None:
                        refused(self, OutOfRange, {"value": index}, lambda index=index: one.command_at(index))
                    else:
                        self.assertEqual(one.command_at(index), word)
                if ring:
                    self.assertEqual(one.command_at(index=10 ** 4200), plainplay.command(front, ring, 10 ** 4200))
            one = Ends(Row.of(front), "m")
            self.assertEqual([one.command_at(index) for index in range(len(front))], front)
            for index in (len(front), len(front) + 1, 10 ** 4200):
                refused(self, OutOfRange, {"value": index}, lambda index=index: one.command_at(index))

    def test_no_indexes(self):
        for one in (Ends(Row(), "m"), Ends(Row("a", "b"), "m"), Never(Row(), Row()), Never(Row("a"), Row("b")), Never(Row("a"), Row())):
            for value in NO_INTEGERS + (-1, -10 ** 99, -10 ** 4000):
                refused(self, OutOfRange, {"value": value}, lambda value=value: one.command_at(value))

    def test_other_values_are_never_equal(self):
        for one in (Ends(Row("a"), "m"), Never(Row("a"), Row("b"))):
            for value in plain.ODD + (Row("a"), ("a", "m")):
                self.assertIs(one == value, False)
                self.assertIs(value == one, False)
                self.assertIs(one != value, True)

    def test_the_class_above_tells_the_same(self):
        made = [Ends(Row(), "m"), Ends(Row("a"), "m"), Never(Row(), Row()), Never(Row(), Row("a")), Never(Row("a"), Row("a", "a")),
                Ends(Row("a"), "n")]
        for one in made:
            self.assertIs(Outcome.is_end.fget(one), one.is_end)
            for other in made:
                self.assertIs(Outcome.__eq__(one, other), one == other)
                self.assertEqual(Outcome.parting(one, other), one.parting(other))
            self.assertIs(Outcome.__eq__(one, Row()), False)
        self.assertEqual([Outcome.command_at(one, 0) for one in made if one not in made[:3:2]], ["a"] * 4)
        refused(self, OutOfRange, {"value": 1}, lambda: Outcome.command_at(made[1], 1))

    def test_great_fronts_and_rings(self):
        draw = plain.drawing(112)
        for _ in range(40):
            front, ring = great_row(draw), great_row(draw, depth=1)
            one = Never(front, ring)
            many = draw.choice((0, 1, draw.randrange(ring.size), draw.randint(0, 10 ** 20) * ring.size + draw.randrange(ring.size)))
            at = many % ring.size
            turned = ring.part(at, ring.size - at) + ring.part(0, at)
            longer = front + ring * (many // ring.size) + ring.part(0, at)
            for other in (Never(longer, turned), Never(longer, turned * draw.randint(1, 10 ** 30)), Never(front, ring * 10 ** 50)):
                self.assertTrue(one == other and other == one)
                self.assertIsNone(one.parting(other))
            for index in (0, front.size - 1, front.size, longer.size, longer.size + 10 ** 50):
                self.assertEqual(one.command_at(index), Never(longer, turned).command_at(index))
            # One command is another one, at any place.
            place = draw.randrange(longer.size)
            word = "q" if longer[place] != "q" else "r"
            changed = longer.part(0, place) + Row(word) + longer.part(place + 1, longer.size - place - 1)
            self.assertEqual(Never(changed, turned).parting(one), place)
            place = draw.randrange(ring.size)
            word = "q" if turned[place] != "q" else "r"
            other = turned.part(0, place) + Row(word) + turned.part(place + 1, ring.size - place - 1)
            self.assertEqual(one.parting(Never(longer, other)), longer.size + place)
            self.assertEqual(one.parting(Never(longer, turned * 10 ** 20 + other)), longer.size + ring.size * 10 ** 20 + place)
            self.assertEqual(one.parting(Ends(longer, "m")), longer.size)
            self.assertEqual(Never(longer, Row()).parting(one), longer.size)

    def test_the_greatest_fronts_and_rings(self):
        front, ring = Row("a") * SIZE, Row("b") * SIZE
        one = Never(front, ring)
        self.assertTrue(one == Never(front, Row("b")) and one == Never(front, Row("b", "b", "b")) and one == Never(front, Row("b") * (SIZE - 1)))
        self.assertEqual(one.parting(Never(Row("a"), Row("a"))), SIZE)
        self.assertEqual(one.parting(Never(front, Row("b") * (SIZE - 1) + Row("c"))), 2 * SIZE - 1)
        self.assertEqual(one.command_at(SIZE - 1) + one.command_at(SIZE) + one.command_at(10 ** 4200), "abb")
        # Rings of two sizes that go on alike for nearly as long as both together.
        short, long = Row("a") * (SIZE // 2 - 1) + Row("b"), Row("a") * (SIZE // 2) + Row("b")
        self.assertEqual(Never(Row(), short).parting(Never(Row(), long)), SIZE // 2 - 1)
        pair = Row("a", "b") * (SIZE // 4)
        self.assertEqual(Never(Row(), pair).parting(Never(Row(), pair + Row("a"))), 2 * (SIZE // 4) + 1)
        three, two = Row("a", "a", "b") * (SIZE // 6), Row("a", "a", "b") * (SIZE // 6 - 1) + Row("a", "a")
        self.assertEqual(Never(Row(), three).parting(Never(Row(), two)), two.size)
        self.assertEqual(Never(Row(), Row("a", "b") * (SIZE // 2)), Never(Row("a", "b") * 10 ** 999, Row("a", "b") * (SIZE // 4)))
        self.assertEqual(Never(Row("a"), Row("b", "a") * (SIZE // 2)), Never(Row(), Row("a", "b")))
        self.assertEqual(Never(front, Row("a")), Never(Row(), Row("a") * SIZE))
        self.assertEqual(Never(front, Row()).parting(Never(Row(), front)), SIZE)


if __name__ == "__main__":
    unittest.main()
