"""onestroke/weaving.py and onestroke/strands.py: threads and strands against rows that are put together otherwise."""

import time
import unittest

from onestroke.rows import Row, letters, row_of
from onestroke.strands import (
    common_in, joined_strands, mark_of, row_of_strand, rows_of, size_of, strand_ahead, strand_behind, strand_of_row)
from onestroke.weaving import Loom, Weaver
from test_great import great_row
from test_scripts import some_nodes, summed
from test_time import growing_letters
import plain


class Strands(unittest.TestCase):

    def look_at(self, draw, loom, one, other):
        """All that is done with two rows, told as strands of one loom."""
        mine, yours = strand_of_row(loom, one), strand_of_row(loom, other)
        self.assertEqual((size_of(mine), size_of(yours)), (one.size, other.size))
        self.assertTrue(row_of_strand(loom, mine) == one and row_of_strand(loom, yours) == other)
        self.assertEqual(mark_of(loom, mine) == mark_of(loom, yours), one == other)
        self.assertEqual(common_in(loom, mine, yours), one.common(other))
        both = joined_strands(loom, mine, yours)
        self.assertTrue(row_of_strand(loom, both) == one + other)
        for at in {0, min(1, one.size), one.size, draw.randint(0, one.size), one.common(other)}:
            ahead, behind = strand_ahead(loom, mine, at), strand_behind(loom, mine, one.size - at)
            self.assertTrue(row_of_strand(loom, ahead) == one.part(0, at))
            self.assertTrue(row_of_strand(loom, behind) == one.part(at, one.size - at))
            self.assertEqual(mark_of(loom, joined_strands(loom, ahead, behind)), mark_of(loom, mine))
            self.assertEqual(common_in(loom, joined_strands(loom, ahead, yours), mine), (one.part(0, at) + other).common(one))

    def test_drawn_rows(self):
        draw = plain.drawing(461)
        for _ in range(150):
            loom = Loom()
            rows = [great_row(draw, depth=1) for _ in range(3)] + [Row(), Row("a"), Row("a") * draw.randint(1, 10 ** 30)]
            for _ in range(4):
                self.look_at(draw, loom, draw.choice(rows), draw.choice(rows))

    def test_threads_of_one_loom_are_the_same_however_they_are_made(self):
        draw = plain.drawing(462)
        for _ in range(300):
            nodes = some_nodes(draw)
            rows = summed(nodes)
            loom = Loom()
            weaver = Weaver(loom, nodes)
            for index in sorted(range(len(nodes)), key=lambda _: draw.random()):
                strand = weaver.thread_at(index)
                self.assertEqual(letters(row_of_strand(loom, strand)), letters(rows[index]))
                self.assertEqual(mark_of(loom, strand), mark_of(loom, strand_of_row(loom, rows[index])))

    def test_entries_that_are_added_later(self):
        nodes = ["a", "b", ((0, 3), (1, 1))]
        loom = Loom()
        weaver = Weaver(loom, nodes)
        self.assertTrue(row_of_strand(loom, weaver.thread_at(2)) == Row("a", "a", "a", "b"))
        nodes.extend(["c", ((2, 10 ** 9), (3, 1)), ((4, 2),)])
        self.assertTrue(row_of_strand(loom, weaver.thread_at(5)) == (Row("a", "a", "a", "b") * 10 ** 9 + Row("c")) * 2)
        self.assertIsNone(weaver.thread_at(-1))

    def test_some_thousand_levels(self):
        began = time.perf_counter()
        entries = growing_letters(12001)
        row = row_of(entries)
        self.assertTrue(rows_of(entries, [len(entries) - 1])[0] == row)
        loom = Loom()
        strand = strand_of_row(loom, row)
        at = row.size // 3
        ahead, behind = strand_ahead(loom, strand, at), strand_behind(loom, strand, row.size - at)
        self.assertTrue(row_of_strand(loom, behind) == row.part(at, row.size - at))
        self.assertEqual(mark_of(loom, joined_strands(loom, ahead, behind)), mark_of(loom, strand))
        self.assertEqual(common_in(loom, joined_strands(loom, ahead, loom.word("q")), strand), at)
        self.assertTrue(row_of_strand(loom, joined_strands(loom, behind, ahead)) == row.part(at, row.size - at) + row.part(0, at))
        self.assertLess(time.perf_counter() - began, 60)

    def test_chains_of_threads_of_one_level(self):
        # Each entry is the one before with words around it: thousands of threads within one another.
        began = time.perf_counter()
        for ahead, behind in (([], [0]), ([0], []), ([], [0, 1]), ([1], [1]), ([0, 1], [1, 0]), ([0, 0, 1], [])):
            nodes = ["a", "b", "c"]
            for at in range(2, 3002):
                nodes.append(tuple((index, 1) for index in ahead + [at] + behind))
            row = Row.of(["ab"[index] for index in ahead]) * 3000 + Row("c") + Row.of(["ab"[index] for index in behind]) * 3000
            self.assertTrue(rows_of(nodes, [len(nodes) - 1])[0] == row)
        self.assertLess(time.perf_counter() - began, 60)


if __name__ == "__main__":
    unittest.main()
