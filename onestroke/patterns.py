"""Patterns: how often, and where, a few words occur in a row."""

from onestroke.errors import InvalidPattern, OutOfRange
from onestroke.limits import PATTERN
from onestroke.rows import letters
from onestroke.values import are_all_words, is_whole
from onestroke.walking import Walk


class Search(Walk):
    """A walk through the letters of a row. A state tells how many words of the pattern, at most, stand last."""

    def __init__(self, row, pattern):
        Walk.__init__(self, letters(row))
        self.pattern = list(pattern)
        self.moves = moves_of(self.pattern)
        self.sizes = sizes_in(self.nodes)
        # How often the last word of the pattern is met in each unit, and the pieces (unit, times) of each longer one.
        self.counts = {}
        self.pieces = {}
        self.whole = []
        if len(self.nodes) > 0:
            unit = self.entered(len(self.nodes) - 1, 0)
            self.finish(unit)
            self.whole = [(unit, 1)]
        for unit in list(self.parts):
            # Where a letter comes again and again, its last words soon settle the state: a ring is one unit.
            self.pieces[unit] = [(units[0], times) for units, times in self.parts[unit]]
            self.counts[unit] = sum([self.counts[inner] * times for inner, times in self.pieces[unit]])

    def entered(self, index, state):
        """The unit of an entry. The leaves are words."""
        entry = self.nodes[index]
        if isinstance(entry, str):
            after = self.moves[entry][state] if entry in self.moves else 0
            self.ends[(index, state)] = after
            self.counts[(index, state)] = 1 if after == len(self.pattern) else 0
        return (index, state)

    def total(self):
        """How often the pattern occurs in the row."""
        return sum([self.counts[unit] for unit, _ in self.whole])

    def place(self, index):
        """The place of the occurrence with this index, which there is."""
        pieces = self.whole
        place = 0
        while True:
            for unit, times in pieces:
                many = self.counts[unit]
                if index < many * times:
                    break
                index = index - many * times
                place = place + self.sizes[unit[0]] * times
            place = place + index // many * self.sizes[unit[0]]
            index = index % many
            if unit not in self.pieces:
                return place + 1 - len(self.pattern)
            pieces = self.pieces[unit]


def overlap(words, pattern):
    """How many words of the pattern, at most, stand last among words."""
    most = min(len(words), len(pattern))
    return max([many for many in range(most + 1) if words[len(words) - many:] == pattern[:many]])


def moves_of(pattern):
    """The states behind each word of the pattern, by the states ahead of it."""
    moves = {}
    for word in pattern:
        moves[word] = [overlap(pattern[:state] + [word], pattern) for state in range(len(pattern) + 1)]
    return moves


def sizes_in(nodes):
    """How many words each entry has."""
    sizes = []
    for entry in nodes:
        sizes.append(1 if isinstance(entry, str) else sum([sizes[index] * times for index, times in entry]))
    return sizes


def check_pattern(pattern, index):
    """The errors of a pattern and an index or a start."""
    if not are_all_words(pattern) or not 1 <= len(pattern) <= PATTERN:
        raise InvalidPattern(pattern)
    if not is_whole(index) or index < 0:
        raise OutOfRange(index)


def times_in(row, pattern):
    """How often a pattern occurs in a row."""
    check_pattern(pattern, 0)
    return Search(row, pattern).total()


def place_of(row, pattern, index=0):
    """The place of the occurrence with this index; None if there are not so many."""
    check_pattern(pattern, index)
    search = Search(row, pattern)
    return search.place(index) if index < search.total() else None


def places(row, pattern, start=0):
    """All places of a pattern from a place on, ascending."""
    check_pattern(pattern, start)
    search = Search(row, pattern)
    # From a first word to the place behind the last one. The list that was skipped may be changed meanwhile.
    many = len(search.pattern)
    least = start + many - 1
    place = 0
    todo = list(search.whole)
    while todo:
        unit, times = todo.pop()
        size = search.sizes[unit[0]]
        skipped = times if search.counts[unit] == 0 else min(times, max(least - place, 0) // size)
        place = place + skipped * size
        if skipped == times:
            continue
        if times - skipped > 1:
            todo.append((unit, times - skipped - 1))
        if unit in search.pieces:
            todo.extend(search.pieces[unit][::-1])
        else:
            place = place + 1
            yield place - many
