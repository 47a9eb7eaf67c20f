"""Patterns: how often, and where, a few words occur in a row."""

from onestroke.errors import InvalidPattern, OutOfRange
from onestroke.limits import PATTERN
from onestroke.rows import letters
from onestroke.values import are_all_words, is_whole
from onestroke.walking import Walk


class Search(Walk):
    """A walk through the letters of a row. A state tells how many words of the pattern, at most, stand last."""

    def __init__(self, row, pattern):
        Walk.__init__(self, letters(row))
        self.pattern = list(pattern)
        self.moves = moves_of(self.pattern)
        self.sizes = sizes_in(self.nodes)
        # How often the last word of the pattern is met in each unit.
        self.counts = {}
        # All of the row, as parts.
        self.whole = []
        if len(self.nodes) > 0:
            unit = self.entered(len(self.nodes) - 1, 0)
            self.finish(unit)
            self.whole = [((unit,), 1)]
        for unit in self.parts:
            self.counts[unit] = sum([self.count_in(units) * times for units, times in self.parts[unit]])

    def entered(self, index, state):
        """The unit of an entry. The leaves are words."""
        unit = (index, state)
        entry = self.nodes[index]
        if unit not in self.ends and isinstance(entry, str):
            after = self.moves[entry][state] if entry in self.moves else 0
            self.ends[unit] = after
            self.counts[unit] = 1 if after == len(self.pattern) else 0
        return unit

    def count_in(self, units):
        """How often the last word of the pattern is met in units."""
        return sum([self.counts[unit] for unit in units])

    def size_of(self, units):
        """How many words units have."""
        return sum([self.sizes[unit[0]] for unit in units])

    def total(self):
        """How often the pattern occurs in the row."""
        return sum([self.count_in(units) for units, _ in self.whole])

    def place(self, index):
        """The place of the occurrence with this index, which there is."""
        parts = self.whole
        place = 0
        while True:
            for units, times in parts:
                many = self.count_in(units)
                if index < many * times:
                    break
                index = index - many * times
                place = place + self.size_of(units) * times
            place = place + index // many * self.size_of(units)
            index = index % many
            for unit in units:
                if index < self.counts[unit]:
                    break
                index = index - self.counts[unit]
                place = place + self.sizes[unit[0]]
            if unit not in self.parts:
                return place + 1 - len(self.pattern)
            parts = self.parts[unit]


def overlap(words, pattern):
    """How many words of the pattern, at most, stand last among words."""
    most = min(len(words), len(pattern))
    return max([many for many in range(most + 1) if words[len(words) - many:] == pattern[:many]])


def moves_of(pattern):
    """The states behind each word of the pattern, by the states ahead of it."""
    moves = {}
    for word in pattern:
        moves[word] = [overlap(pattern[:state] + [word], pattern) for state in range(len(pattern) + 1)]
    return moves


def sizes_in(nodes):
    """How many words each entry has."""
    sizes = []
    for entry in nodes:
        sizes.append(1 if isinstance(entry, str) else sum([sizes[index] * times for index, times in entry]))
    return sizes


def check_pattern(pattern, index):
    """The errors of a pattern and an index or a start."""
    if not are_all_words(pattern) or not 1 <= len(pattern) <= PATTERN:
        raise InvalidPattern(pattern)
    if not is_whole(index) or index < 0:
        raise OutOfRange(index)


def times_in(row, pattern):
    """How often a pattern occurs in a row."""
    check_pattern(pattern, 0)
    return Search(row, pattern).total()


def place_of(row, pattern, index=0):
    """The place of the occurrence with this index; None if there are not so many."""
    check_pattern(pattern, index)
    search = Search(row, pattern)
    return search.place(index) if index < search.total() else None


def places(row, pattern, start=0):
    """All places of a pattern from a place on, ascending."""
    check_pattern(pattern, start)
    search = Search(row, pattern)
    # From a first word to the place behind the last one. The list that was passed may be changed meanwhile.
    many = len(search.pattern)
    least = start + many - 1
    place = 0
    todo = list(search.whole)
    while todo:
        units, times = todo.pop()
        size = search.size_of(units)
        passed = times if search.count_in(units) == 0 else min(times, max(least - place, 0) // size)
        place = place + passed * size
        if passed == times:
            continue
        if times - passed > 1:
            todo.append((units, times - passed - 1))
        if len(units) > 1:
            todo.extend([((unit,), 1) for unit in units[::-1]])
        elif units[0] in search.parts:
            todo.extend(search.parts[units[0]][::-1])
        else:
            place = place + 1
            yield place - many
