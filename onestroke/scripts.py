"""Scripts: entries that are written one after the other, without any folding.

Entries are told as the letters of a row are [13]: a list of words and of
tuples of pairs (index, times) of entries ahead.
"""

from onestroke.folding import runs_of

# The index of the entry that stands for no words. It is not written.
EMPTY = -1


class Script:
    """Entries, equal ones written once."""

    def __init__(self):
        self.nodes = []
        self.indexes = {}

    def written(self, entry):
        """The index of an entry."""
        if entry not in self.indexes:
            self.indexes[entry] = len(self.nodes)
            self.nodes.append(entry)
        return self.indexes[entry]

    def flat(self, index, times):
        """The pair of an entry that is done so many times, told by its own pair if it has a single one."""
        entry = self.nodes[index]
        if isinstance(entry, tuple) and len(entry) == 1:
            return (entry[0][0], entry[0][1] * times)
        return (index, times)

    def summed(self, pairs):
        """The index of the entry that does pairs of entries in order."""
        runs = runs_of([self.flat(index, times) for index, times in pairs if index != EMPTY and times > 0])
        if len(runs) == 0:
            return EMPTY
        if len(runs) == 1 and runs[0][1] == 1:
            return runs[0][0]
        return self.written(tuple(runs))
