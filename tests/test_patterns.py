"""onestroke/patterns.py [14]: patterns against plain lists, and in great rows."""

import itertools
import unittest

from onestroke.errors import InvalidPattern, OutOfRange
from onestroke.limits import SIZE
from onestroke.patterns import place_of, places, times_in
from onestroke.rows import Row, row_of
from test_great import Tree
from test_time import growing_letters
from values import ANY, NO_INTEGERS, refused
import plain

MANY = 10 ** 30


def plain_places(words, pattern):
    """The places of a pattern in a list of words."""
    size = len(pattern)
    return [place for place in range(len(words) - size + 1) if words[place:place + size] == list(pattern)]


def first_of(found, many):
    """The first values of a generator."""
    return list(itertools.islice(found, many))


class Patterns(unittest.TestCase):

    def same(self, words, pattern, starts):
        row = Row.of(words)
        found = plain_places(words, pattern)
        self.assertEqual(times_in(row, pattern), len(found), (words, pattern))
        self.assertEqual([place_of(row, pattern, index) for index in range(len(found))], found, (words, pattern))
        self.assertEqual(place_of(row, pattern), found[0] if found else None)
        for index in (len(found), len(found) + 1, 10 ** 4000):
            self.assertIsNone(place_of(row, pattern, index))
        self.assertEqual(list(places(row, pattern)), found, (words, pattern))
        for start in starts:
            self.assertEqual(list(places(row, pattern, start)), [place for place in found if place >= start])

    def test_all_short_rows_and_patterns(self):
        for size in range(8):
            for words in itertools.product("ab", repeat=size):
                for many in range(1, 4):
                    for pattern in itertools.product("ab", repeat=many):
                        self.same(list(words), pattern, (1, size // 2, size, size + 1))

    def test_drawn_rows_and_patterns(self):
        draw = plain.drawing(41)
        for _ in range(400):
            words = plain.some_words(draw, 150)
            size = draw.randint(1, 8)
            start = draw.randrange(len(words))
            pattern = words[start:start + size]
            if draw.random() < 0.4:
                pattern = [draw.choice(plain.WORDS[:2]) for _ in range(size)]
            self.same(words, pattern, (draw.randrange(len(words)), start, start + 1, len(words) - 1, 10 ** 4000))

    def test_overlapping_occurrences(self):
        for size in range(1, 9):
            self.same(["a"] * 30, ["a"] * size, range(32))
            self.same((["a"] * 7 + ["b"]) * 6, ["a"] * min(size, 7), range(0, 50, 3))
            self.same(["a", "b"] * 20, (["a", "b"] * 4)[:size], range(0, 42, 3))
            self.same(["a", "a", "b"] * 12, (["a", "b", "a"] * 3)[:size], range(0, 38, 3))
        row = Row("a") * SIZE
        self.assertEqual(times_in(row, ["a"] * 8), SIZE - 7)
        self.assertEqual(place_of(row, ["a"] * 8, SIZE - 8), SIZE - 8)
        self.assertIsNone(place_of(row, ["a"] * 8, SIZE - 7))
        self.assertEqual(first_of(places(row, ["a"] * 8, SIZE - 10), 9), [SIZE - 10, SIZE - 9, SIZE - 8])

    def test_tuples_and_lists_and_names(self):
        row = Row("a", "b", "a", "b")
        pattern = ["a", "b"]
        self.assertEqual(times_in(row, pattern), times_in(row=row, pattern=("a", "b")))
        self.assertEqual(place_of(row, ("a", "b"), 1), place_of(row=row, pattern=pattern, index=1))
        self.assertEqual(list(places(row, ("a", "b"), 1)), list(places(row=row, pattern=pattern, start=1)))
        self.assertEqual(pattern, ["a", "b"])

    def test_a_changed_list_changes_no_generator(self):
        pattern = ["a", "b"]
        found = places(Row("a", "b") * MANY, pattern)
        self.assertEqual(next(found), 0)
        pattern[0] = "z"
        pattern.append("b")
        self.assertEqual(first_of(found, 2), [2, 4])

    def test_the_empty_row(self):
        for pattern in (["a"], ["a", "b"]):
            self.same([], pattern, (0, 1))

    def test_over_the_seams_of_powers(self):
        draw = plain.drawing(42)
        for _ in range(60):
            unit = plain.some_words(draw, 12)
            number = draw.choice((9, 10, 10 ** 9, MANY + draw.randrange(100)))
            row = Row.of(unit) * number
            size = draw.randint(1, 8)
            # So many turns show all places that there are in one turn, and those at the end.
            turns = 12 + size
            start = draw.randrange(len(unit))
            pattern = (unit * turns)[start:start + size]
            found = plain_places(unit * turns, pattern)
            each = [place for place in found if place < len(unit)]
            last = [place + (number - turns) * len(unit) for place in found if place >= len(unit) * (turns - 10)]
            if number >= turns:
                many = len(found) + (number - turns) * len(each)
                self.assertEqual(times_in(row, pattern), many)
                index = draw.randrange(many)
                self.assertEqual(place_of(row, pattern, many - 1), last[-1])
                if index < (number - turns) * len(each):
                    place = each[index % len(each)] + index // len(each) * len(unit)
                    self.assertEqual(place_of(row, pattern, index), place)
                    self.assertEqual(next(places(row, pattern, place)), place)
                self.assertEqual(list(places(row, pattern, (number - 10) * len(unit))), last)
                self.assertEqual(first_of(places(row, pattern), 3 * len(each)), found[:3 * len(each)])

    def test_great_trees(self):
        draw = plain.drawing(43)
        for _ in range(40):
            tree = Tree(draw, 3)
            size = draw.randint(1, min(8, tree.size))
            at = draw.randrange(tree.size - size + 1)
            pattern = [tree.word(at + more) for more in range(size)]
            found = first_of(places(tree.row, pattern, at), 5)
            self.assertEqual(found[0], at)
            # The places from here on are all that there are.
            end = found[-1] + 1 if len(found) == 5 else min(tree.size, at + 300)
            if end - at < 400:
                words = [tree.word(place) for place in range(at, min(end + size - 1, tree.size))]
                expected = [at + place for place in plain_places(words, pattern)]
                self.assertEqual(found[:len(expected)], expected)
            self.ordered(tree.row, pattern, draw)

    def ordered(self, row, pattern, draw):
        """The places by index ascend, each one holds the pattern, and counting parts gives their indexes."""
        many = times_in(row, pattern)
        self.assertIsNone(place_of(row, pattern, many))
        for index in (0, many - 1, draw.randrange(many), draw.randrange(many)):
            place = place_of(row, pattern, index)
            self.assertEqual(list(row.part(place, len(pattern)).listed()), pattern)
            self.assertEqual(times_in(row.part(0, place + len(pattern)), pattern), index + 1)
            self.assertEqual(times_in(row.part(place, row.size - place), pattern), many - index)
            self.assertEqual(next(places(row, pattern, place)), place)
            self.assertEqual(next(places(row, pattern, place + 1), None), place_of(row, pattern, index + 1))

    def test_a_pattern_that_stands_nowhere_or_once(self):
        row = (Row("a", "b") * MANY + Row("c")) * MANY
        unit = 2 * MANY + 1
        for pattern in (["d"], ["b", "b"], ["c", "c"], ["b", "c", "b"], ["a", "c"], ["a", "b", "c", "a", "b", "c"]):
            self.assertEqual(times_in(row, pattern), 0)
            self.assertIsNone(place_of(row, pattern))
            self.assertEqual(list(places(row, pattern)), [])
            self.assertEqual(list(places(row, pattern, row.size - 1)), [])
        self.assertEqual(times_in(row, ["b", "c", "a"]), MANY - 1)
        self.assertEqual(place_of(row, ["b", "c", "a"], 10 ** 20), (10 ** 20 + 1) * unit - 2)
        self.assertEqual(list(places(row, ["b", "c", "a"], (MANY - 2) * unit)), [(MANY - 1) * unit - 2])
        changed = row.part(0, 5 * unit) + Row("d") + row
        self.assertEqual(list(places(changed, ["c", "d", "a"])), [5 * unit - 1])
        self.assertEqual(times_in(changed, ["d"]), 1)

    def test_the_greatest_rows(self):
        row = Row("a", "b", "a", "a", "b") * (SIZE // 5)
        for pattern, many in ((["a"], 3), (["a", "b"], 2), (["b", "a", "b"], 1), (["b", "a", "a", "b"], 1)):
            seams = 0 if len(pattern) < 3 else 1
            self.assertEqual(times_in(row, pattern), many * (SIZE // 5) - seams * (pattern == ["b", "a", "b"]))
        self.assertEqual(place_of(row, ["b", "a", "b"], 10 ** 3999), 5 * 10 ** 3999 + 4)
        self.assertEqual(first_of(places(row, ["b", "a", "b"], 5 * 10 ** 3999), 2), [5 * 10 ** 3999 + 4, 5 * 10 ** 3999 + 9])

    def test_some_thousand_levels(self):
        row = row_of(growing_letters(12001))
        singles = [times_in(row, [word]) for word in "ab"]
        self.assertEqual(sum(singles), row.size)
        # There is an a ahead of each b.
        self.assertEqual(singles[1], times_in(row, ["a", "b"]))
        self.assertEqual(times_in(row, ["b", "b"]), 0)
        many = times_in(row, ["a", "a", "b", "a"])
        place = place_of(row, ["a", "a", "b", "a"], many // 2)
        self.assertEqual(list(row.part(place, 4).listed()), ["a", "a", "b", "a"])
        self.assertEqual(next(places(row, ["a", "a", "b", "a"], place)), place)

    def test_no_patterns(self):
        row = Row("a", "b")
        wrong = [value for value in ANY if value not in ([["a"], ("a",)])]
        wrong += [["a"] * 9, ("a",) * 9, ["a", "B"], ["a", None], ["abcdefghi"], [""], {"a": 1}, "ab", ["a", ["b"]]]
        for value in wrong:
            refused(self, InvalidPattern, {"value": value}, lambda value=value: times_in(row, value))
            for index in (0, 1, -1, True, None, "a"):
                refused(self, InvalidPattern, {"value": value}, lambda: place_of(row, value, index))
                refused(self, InvalidPattern, {"value": value}, lambda: list(places(row, value, index)))
                refused(self, InvalidPattern, {"value": value}, lambda: list(places(Row(), value, index)))
        for size in (1, 8):
            self.assertEqual(times_in(Row("a") * 8, ["a"] * size), 9 - size)

    def test_no_indexes(self):
        for row in (Row(), Row("a", "b"), Row("a") * MANY):
            for value in NO_INTEGERS + (-1, -10 ** 99, -10 ** 4000):
                refused(self, OutOfRange, {"value": value}, lambda value=value: place_of(row, ["a"], value))
                refused(self, OutOfRange, {"value": value}, lambda value=value: list(places(row, ["a"], value)))
                refused(self, OutOfRange, {"value": value}, lambda value=value: next(places(row, ("a",), value)))


if __name__ == "__main__":
    unittest.main()
