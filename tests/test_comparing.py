"""Comparing [32] and delay tables [33] of drawn systems, against all short pressed rows by the plain play."""

import itertools
import unittest

from onestroke.bodies import Body, Go, Press, Say, Times
from onestroke.books import Book, Chain
from onestroke.comparing import are_alike, delays, is_delays, parted
from onestroke.rows import Row
from onestroke.smallest import smallest
from values import ANY
import plain
import plainsystem
import plainvariants


def words(row):
    return list(row.listed())


def common(one, other):
    return plain.common_of(one, other)


def is_table(one, other, table):
    """Whether a dict from pairs of plain states to pairs of lists is a delay table, by each condition of [33]."""
    mine, yours = one.alive(), other.alive()
    for (state, more), (ahead, behind) in table.items():
        if state not in mine or more not in yours or ahead and behind or one.is_rest(state) != other.is_rest(more):
            return False
        if one.is_rest(state) and (ahead or behind):
            return False
        for key in set(one.bound + other.bound):
            said, _, after = one.stroke(state, key) if key in one.bound else ([], None, state)
            told, _, next_one = other.stroke(more, key) if key in other.bound else ([], None, more)
            if (after in mine) != (next_one in yours):
                return False
            if after in mine:
                left, right = ahead + said, behind + told
                many = common(left, right)
                if table.get((after, next_one)) != (left[many:], right[many:]):
                    return False
    if one.first in mine and other.first in yours:
        return table.get((one.first, other.first)) == ([], [])
    return not table and one.first not in mine and other.first not in yours


def told(one, other, table):
    """A delay table of the package in plain values."""
    states, more = {one.shown(state): state for state in one.states}, {other.shown(state): state for state in other.states}
    return {(states[pair[0]], more[pair[1]]): (words(rows[0]), words(rows[1])) for pair, rows in table.items()}


class Drawn(unittest.TestCase):

    def look_at(self, one, other, most):
        """What the package says of two plain systems. Returns the shortest list."""
        mine, yours = one.made(), other.made()
        found = parted(mine, yours)
        self.assertIs(are_alike(mine, yours), found is None)
        shortest = plainsystem.first_parting(one, other, most)
        if found is None:
            self.assertIsNone(shortest, (one.books, other.books))
        else:
            self.assertIs(type(found), list)
            self.assertTrue(set(found) <= set(one.bound + other.bound))
            self.assertNotEqual(one.counted(found), other.counted(found), (one.books, other.books, found))
            self.assertTrue(len(found) == shortest if shortest is not None else len(found) > most)
        back = parted(yours, mine)
        self.assertEqual(back if back is None else len(back), found if found is None else len(found))
        table = delays(mine, yours)
        self.assertEqual(table is None, found is not None)
        if table is not None:
            self.assertTrue(is_table(one, other, told(one, other, table)))
            self.assertIs(is_delays(mine, yours, table), True)
        self.assertEqual(smallest(mine) == smallest(yours), found is None)
        return found

    def test_alike_systems(self):
        draw = plain.drawing(321)
        delayed = 0
        for _ in range(500):
            one = plainsystem.some_system(draw) if draw.random() < 0.6 else plainsystem.late_system(draw)
            other = plainvariants.variant(draw, one)
            self.assertIsNone(self.look_at(one, other, 2), (one.books, other.books))
            if any(ahead.size + behind.size for ahead, behind in delays(one.made(), other.made()).values()):
                delayed += 1
        self.assertGreater(delayed, 20)

    def test_one_place_changed(self):
        draw = plain.drawing(322)
        sizes = []
        for _ in range(400):
            one = plainsystem.some_system(draw) if draw.random() < 0.6 else plainsystem.late_system(draw)
            other = plainvariants.one_change(draw, plainvariants.variant(draw, one))
            found = self.look_at(one, other, 5 if len(set(one.bound + other.bound)) < 3 else 4)
            sizes.append(None if found is None else len(found))
        self.assertGreater(len(set(sizes)), 4)

    def test_any_two_systems(self):
        draw = plain.drawing(323)
        for _ in range(300):
            self.look_at(plainsystem.some_system(draw, keys=2), plainsystem.some_system(draw, keys=2), 4)

    def test_delays_that_part_far_away(self):
        # The difference shows only behind a loop that the shortest way does not take.
        draw = plain.drawing(324)
        sizes = []
        for _ in range(500):
            one = plainsystem.late_system(draw)
            other = plainvariants.variant(draw, one)
            for _ in range(draw.randint(0, 2)):
                other = plainvariants.one_change(draw, other)
            try:
                shortest = plainsystem.exact_parting(one, other, 20000)
            except OverflowError:
                continue
            found = self.look_at(one, other, 2)
            self.assertEqual(found if found is None else len(found), shortest, (one.books, other.books))
            sizes.append(shortest)
        self.assertGreater(len([size for size in sizes if size is not None and size > 3]), 10)


class Few(unittest.TestCase):

    def test_systems_in_which_nothing_counts(self):
        dead = [Book("m"), Book("m", ["n"], {("m", "a"): Body(Say("x"))}), Book("m") + Book("m", ["m"]),
                Book("m", ["n"], {("m", "a"): Body(Press("a"))})]
        for one, other in itertools.product(dead, repeat=2):
            self.assertTrue(are_alike(one, other))
            self.assertIsNone(parted(one, other))
            self.assertEqual(delays(one, other), {})
            self.assertTrue(is_delays(one, other, {}))
        alive = Book("m", ["n"], {("m", "k"): Body(Go("n"))})
        for one in dead:
            for pair in ((one, alive), (alive, one)):
                self.assertFalse(are_alike(*pair))
                self.assertEqual(parted(*pair), ["k"])
                self.assertIsNone(delays(*pair))
                self.assertFalse(is_delays(*pair, {}))

    def test_keys_that_one_of_both_lacks(self):
        one = Book("m", ["m"], {("m", "a"): Body(Say("x"))})
        other = one.copied()
        other["m", "idle"] = Body(Times(7, Go("m")))
        self.assertTrue(are_alike(one, other))
        self.assertEqual(delays(one, other), {("m", "m"): (Row(), Row())})
        other["m", "idle"] = Body(Say("y"))
        self.assertEqual((parted(one, other), parted(other, one)), (["idle"], ["idle"]))
        other["m", "idle"] = Body(Press("idle"))
        self.assertEqual(parted(one, other), ["idle"])
        other["m", "idle"] = Body(Go("n"))
        self.assertEqual(parted(one, other), ["idle"])

    def test_a_stroke_that_never_ends_is_as_one_that_leads_nowhere(self):
        one = Book("m", ["m"], {("m", "a"): Body(Say("x"), Press("a")), ("m", "b"): Body(Say("y"))})
        other = Book("m", ["m"], {("m", "a"): Body(Say("z"), Go("n")), ("m", "b"): Body(Say("y")), ("n", "a"): Body(Say("z"))})
        self.assertTrue(are_alike(one, other))
        self.assertEqual(delays(one, other), {("m", "m"): (Row(), Row())})

    def test_commands_said_early_or_late(self):
        early = Book("m", ["m"], {("m", "a"): Body(Say("x"), Say("y"), Go("n")), ("n", "b"): Body(Say("z"), Go("m"))})
        late = Book("m", ["m"], {("m", "a"): Body(Say("x"), Go("n")), ("n", "b"): Body(Say("y"), Say("z"), Go("m"))})
        self.assertEqual(delays(early, late), {("m", "m"): (Row(), Row()), ("n", "n"): (Row("y"), Row())})
        self.assertEqual(delays(late, early), {("m", "m"): (Row(), Row()), ("n", "n"): (Row(), Row("y"))})
        late["n", "b"] = Body(Say("y"), Go("m"))
        self.assertEqual(parted(early, late), ["a", "b"])

    def test_sums_of_chains(self):
        draw = plain.drawing(325)
        for _ in range(60):
            one, two, three = [plainsystem.some_system(draw, books=1, modes=3).made() for _ in range(3)]
            left, right = (one + two) + three, one + (two + three)
            self.assertIsNone(parted(left, right))
            self.assertTrue(is_delays(left, Chain(one, two, three), delays(right, left)))

    def test_arguments_stay_as_they_are(self):
        draw = plain.drawing(326)
        for _ in range(40):
            one, other = plainsystem.some_system(draw, books=1), plainsystem.some_system(draw, books=1)
            mine, yours = one.made(), other.made()
            before = mine.copied(), yours.copied()
            parted(mine, yours), are_alike(mine, yours)
            table = delays(mine, yours)
            is_delays(mine, yours, table)
            self.assertEqual((mine, yours), before)
            if table:
                table.clear()
                self.assertNotEqual(delays(mine, yours), {})
            found = parted(mine, yours)
            if found is not None:
                found.append("z")
                self.assertNotEqual(parted(mine, yours), found)


class Tables(unittest.TestCase):

    def check(self, one, other, table, most=None):
        """is_delays says what the conditions say, and the table stays as it is."""
        expected = is_table(one, other, told(one, other, table))
        before = dict(table)
        self.assertIs(is_delays(one.made(), other.made(), table), expected)
        self.assertEqual(list(table.items()), list(before.items()))
        return expected

    def test_tables_near_a_right_one(self):
        draw = plain.drawing(327)
        right = wrong = 0
        for _ in range(150):
            one = plainsystem.some_system(draw, modes=3) if draw.random() < 0.5 else plainsystem.late_system(draw)
            other = plainvariants.variant(draw, one)
            table = delays(one.made(), other.made())
            self.assertTrue(self.check(one, other, table))
            every = [(one.shown(state), other.shown(more)) for state in one.states for more in other.states]
            for _ in range(12):
                changed = dict(table)
                pair = draw.choice(every)
                kind = draw.randrange(7)
                rows = changed.get(pair, (Row(), Row()))
                if kind == 0:
                    changed.pop(pair, None)
                elif kind == 1:
                    changed.setdefault(pair, (Row(), Row()))
                elif kind == 2:
                    changed[pair] = (rows[1], rows[0])
                elif kind == 3:
                    changed[pair] = (rows[0] + Row("x"), rows[1])
                elif kind == 4:
                    changed[pair] = (rows[0], Row.of(words(rows[1])[1:]))
                elif kind == 5 and table:
                    changed[pair] = changed[draw.choice(sorted(table))]
                elif kind == 6 and table:
                    changed[pair] = changed.pop(draw.choice(sorted(table)))
                if self.check(one, other, changed):
                    right += 1
                else:
                    wrong += 1
        self.assertGreater(right, 50)
        self.assertGreater(wrong, 200)

    def test_pairs_that_no_row_reaches(self):
        one = Book("m", ["m"], {("m", "a"): Body(Say("x")), ("n", "a"): Body(Say("x"), Go("m")), ("o", "a"): Body(Say("y"), Say("x"), Go("m"))})
        table = {("m", "m"): (Row(), Row())}
        self.assertTrue(is_delays(one, one, table))
        self.assertTrue(is_delays(one, one, {**table, ("n", "n"): (Row(), Row())}))
        self.assertTrue(is_delays(one, one, {("n", "n"): (Row(), Row()), ("o", "o"): (Row(), Row()), **table}))
        # From o comes y more than from n: with y ahead where the other one is at o, all is even again.
        self.assertTrue(is_delays(one, one, {**table, ("n", "o"): (Row("y"), Row())}))
        self.assertTrue(is_delays(one, one, {**table, ("o", "n"): (Row(), Row("y"))}))
        for pair, rows in ((("n", "o"), (Row(), Row())), (("n", "o"), (Row(), Row("y"))), (("n", "o"), (Row("x"), Row())),
                           (("n", "n"), (Row("x"), Row())), (("o", "n"), (Row("y"), Row())), (("m", "n"), (Row(), Row())),
                           (("n", "o"), (Row("y"), Row("y")))):
            self.assertFalse(is_delays(one, one, {**table, pair: rows}), pair)
        self.assertFalse(is_delays(one, one, {("n", "n"): (Row(), Row())}))

    def test_states_that_are_not_alive(self):
        one = Book("m", ["m"], {("m", "a"): Body(Say("x")), ("m", "b"): Body(Go("dead")), ("dead", "b"): Body(Say("y"))})
        table = {("m", "m"): (Row(), Row())}
        self.assertEqual(delays(one, one), table)
        for pair in (("dead", "dead"), ("m", "dead"), ("dead", "m"), ("nomode", "m"), ("m", ("m",)), (("m",), "m"), "m", ("m",),
                     ("m", "m", "m"), ("m", 1), (None, "m"), (("m", "m"),), 5, None, True, b"m"):
            self.assertFalse(is_delays(one, one, {**table, pair: (Row(), Row())}), pair)

    def test_great_rows(self):
        great = Row("x") * 10 ** 4000
        one = Book("m", ["m"], {("m", "a"): Body(Say("x")), ("n", "a"): Body(Say("x"))})
        table = {("m", "m"): (Row(), Row())}
        # At n nothing counts; at o each row goes on as it is.
        self.assertFalse(is_delays(one, one, {**table, ("n", "n"): (great, Row())}))
        one["o", "a"] = Body(Say("x"))
        one["o", "b"] = Body(Go("m"))
        self.assertEqual(delays(one, one), table)
        self.assertTrue(is_delays(one, one, {**table, ("o", "o"): (Row(), Row())}))
        self.assertFalse(is_delays(one, one, {**table, ("o", "o"): (great, Row())}))
        self.assertFalse(is_delays(one, one, {("m", "m"): (great, Row())}))
        self.assertFalse(is_delays(one, one, {("m", "m"): (great, great)}))
        # A loop that says as much in both keeps any delay; what leads out of it does not.
        loop = Book("m", ["m"], {("m", "a"): Body(Say("x")), ("o", "a"): Body(Say("x"))})
        self.assertFalse(is_delays(loop, loop, {**table, ("o", "o"): (great, Row())}))

    def test_values_of_any_kind(self):
        one = Book("m", ["m"], {("m", "a"): Body(Say("x"), Go("n")), ("n", "a"): Body(Say("y"), Go("m"))})
        chain = one + Book("m", ["m"], {("m", "x"): Body(Say("x")), ("m", "y"): Body(Say("y"))})
        table = {("m", "m"): (Row(), Row()), ("n", "n"): (Row(), Row())}
        self.assertTrue(is_delays(one, one, table))
        self.assertTrue(is_delays(one=one, other=one, value=table))
        self.assertEqual(delays(one, chain), {("m", ("m", "m")): (Row(), Row()), ("n", ("n", "m")): (Row(), Row())})
        self.assertFalse(is_delays(one, chain, table))
        self.assertFalse(is_delays(one, one, delays(one, chain)))
        self.assertTrue(is_delays(one, chain, delays(one, chain)))
        for value in ANY + (list(table.items()), tuple(table), [table], {("m", "m"): None}):
            self.assertIs(is_delays(one, one, value), False)
            self.assertIs(is_delays(one, one, {**table, ("n", "n"): value}), False)
            self.assertIs(is_delays(one, one, {**table, ("n", "n"): (Row(), value)}), isinstance(value, Row) and value.size == 0)
            self.assertIs(is_delays(one, one, {**table, ("n", "n"): (value, Row())}), isinstance(value, Row) and value.size == 0)
        for rows in ([Row(), Row()], (Row(),), (Row(), Row(), Row()), ([], []), ((), ()), (Row(), [])):
            self.assertFalse(is_delays(one, one, {**table, ("n", "n"): rows}))
        self.assertFalse(is_delays(one, one, {}))


if __name__ == "__main__":
    unittest.main()
