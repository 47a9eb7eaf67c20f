"""Charts: what the strokes of a system do, from all of its states, each worked out when it is asked for."""

from onestroke.books import books_of
from onestroke.playing import Player
from onestroke.strands import row_of_strand
from onestroke.systems import modes_in, state_with
from onestroke.weaving import Loom, Weaver


class Chart:
    """The strokes of a system. What they say is told by indexes of entries of one script."""

    def __init__(self, system, loom):
        self.system = system
        self.loom = loom
        self.player = Player(books_of(system))
        self.script = self.player.script
        self.weaver = Weaver(loom, self.script.nodes)
        self.sizes = []

    def stroke_from(self, state, key):
        """The index of what the stroke of a key says, and the state behind it; None if it never ends."""
        told = self.player.stroke_of_word(modes_in(self.system, state), key)
        if told is None:
            return None
        return told[0], state_with(self.system, told[1])

    def after(self, state, key):
        """The state behind the stroke of a key; None if it never ends."""
        told = self.stroke_from(state, key)
        return None if told is None else told[1]

    def size_at(self, index):
        """How many words an entry stands for; there are none for the index of nothing."""
        for entry in self.script.nodes[len(self.sizes):]:
            self.sizes.append(1 if isinstance(entry, str) else sum([self.sizes[at] * times for at, times in entry]))
        return self.sizes[index] if index >= 0 else 0

    def strand_said(self, state, key):
        """The strand of what the stroke of a key says, which ends."""
        return self.weaver.thread_at(self.stroke_from(state, key)[0])

    def row_told(self, index):
        """The row for which an entry stands."""
        return row_of_strand(self.loom, self.weaver.thread_at(index))


def chart_of(system):
    """The chart of a system that is looked at alone."""
    return Chart(system, Loom())
