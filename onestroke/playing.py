"""Playing: words that are pressed in a book, one after the other.

What is pressed, and what is said then, is a stream: entries, the index of the
entry for its beginning, and that of its cycle, which comes again and again
behind it. A stream that ends has None for a cycle.
"""

from onestroke.bodies import Body, Go, Press, Say, Times
from onestroke.scripts import EMPTY, Script
from onestroke.walking import Walk, singles


class Stream:
    """Words, one after the other, perhaps without end."""

    def __init__(self, nodes, start, cycle):
        self.nodes = nodes
        self.start = start
        self.cycle = cycle


class Play(Walk):
    """A walk in a book. The states are modes; the leaves are words that are pressed, Say and Go items.

    The entries that are pressed may grow meanwhile. Those of bodies are told apart by indexes below that of nothing.
    """

    def __init__(self, nodes, source):
        Walk.__init__(self, nodes)
        self.source = source
        self.own = []
        self.programs = {}
        self.units = {}

    def entry_at(self, index):
        """The entry with an index."""
        return self.nodes[index] if index > EMPTY else self.own[EMPTY - 1 - index]

    def pairs_at(self, index):
        """The pairs of an entry that is no leaf. A body is looked at when it is done for the first time."""
        entry = self.entry_at(index)
        if isinstance(entry, Body):
            entry = tuple([self.pair_of(item) for item in entry.entries])
            self.own[EMPTY - 1 - index] = entry
        return entry

    def added(self, entry):
        """The index of a new entry of a body."""
        self.own.append(entry)
        return EMPTY - len(self.own)

    def pair_of(self, item):
        """The pair of an item."""
        if isinstance(item, Times):
            return (self.added(item.body), item.number)
        return (self.added(item.key if isinstance(item, Press) else item), 1)

    def entered(self, index, state):
        """The unit of an entry; for a word that is pressed, that of the body of its stroke, if there is one."""
        if (index, state) not in self.units:
            self.units[(index, state)] = self.unit_of(index, state)
        return self.units[(index, state)]

    def unit_of(self, index, state):
        """The same where it is asked for the first time."""
        entry = self.entry_at(index)
        if isinstance(entry, str) and (state, entry) in self.source:
            return (self.program_of((state, entry)), state)
        if isinstance(entry, (str, Say)):
            self.ends[(index, state)] = state
        elif isinstance(entry, Go):
            self.ends[(index, state)] = entry.mode
        return (index, state)

    def program_of(self, stroke):
        """The index of the body of a stroke."""
        if stroke not in self.programs:
            self.programs[stroke] = self.added(self.source[stroke])
        return self.programs[stroke]


class Told:
    """What a play says, as a script."""

    def __init__(self, play):
        self.play = play
        self.script = Script()
        self.indexes = {}
        # So many of the units that were done are written.
        self.many = 0

    def index_of(self, unit):
        """The index of what a unit says."""
        if unit not in self.indexes:
            entry = self.play.entry_at(unit[0])
            self.indexes[unit] = self.script.written(entry.command) if isinstance(entry, Say) else EMPTY
        return self.indexes[unit]

    def said(self, parts):
        """The index of what parts say."""
        pairs = []
        for units, times in parts:
            pairs.append((self.script.summed([(self.index_of(unit), 1) for unit in units]), times))
        return self.script.summed(pairs)

    def catch_up(self):
        """Writes what the units say that were done since then."""
        for unit in self.play.finished[self.many:]:
            self.indexes[unit] = self.said(self.play.parts[unit])
        self.many = len(self.play.finished)

    def stream(self, start, cycle):
        """The stream of parts, and of parts that come again and again, or None."""
        self.catch_up()
        again = None if cycle is None else self.said(cycle)
        return Stream(self.script.nodes, self.said(start), again)


def cycled(play, before, index, mode):
    """The same as by done_by, for an entry that is pressed again and again behind units that are done."""
    done = []
    while True:
        unit = play.entered(index, mode)
        if unit in done:
            at = done.index(unit)
            return singles(before + done[:at]), singles(done[at:]), None
        frames = play.finish(unit)
        if frames is not None:
            front, ring = play.halves(frames)
            return singles(before + done) + front, ring, None
        done.append(unit)
        mode = play.ends[unit]


def done_by(play, stream, mode):
    """The parts that come of a stream from a mode on, those that come again and again or None, the mode or None."""
    done = []
    if stream.start != EMPTY:
        unit = play.entered(stream.start, mode)
        frames = play.finish(unit)
        if frames is not None:
            front, ring = play.halves(frames)
            return front, ring, None
        done = [unit]
        mode = play.ends[unit]
    if stream.cycle is None:
        return singles(done), None, mode
    if stream.cycle == EMPTY:
        return singles(done), [], None
    return cycled(play, done, stream.cycle, mode)


def passed(stream, source, mode):
    """What a book says when a stream is pressed in it from a mode on, and the mode behind it, None without end."""
    play = Play(stream.nodes, source)
    start, cycle, mode = done_by(play, stream, mode)
    return Told(play).stream(start, cycle), mode


class Player:
    """Words that are pressed in books, with the commands of each one in the next one, as far as the strokes end."""

    def __init__(self, books):
        # The keys of the first book are the entries that are pressed. Other words do nothing.
        self.alphabet = list(books[0].bound)
        self.told = []
        self.known = {}
        nodes = self.alphabet
        for book in books:
            self.told.append(Told(Play(nodes, book)))
            nodes = self.told[-1].script.nodes
        self.script = self.told[-1].script

    def stroke_of_word(self, modes, word):
        """What the stroke of a word says, as an index in the script, and the modes behind it; None if it never ends."""
        if word not in self.alphabet:
            return EMPTY, modes
        if (modes, word) not in self.known:
            self.known[(modes, word)] = self.played(modes, self.alphabet.index(word))
        return self.known[(modes, word)]

    def played(self, modes, index):
        """The same where it is asked for the first time, for the entry of the word."""
        ends = []
        for told, mode in zip(self.told, modes):
            if index != EMPTY:
                unit = told.play.entered(index, mode)
                if told.play.finish(unit) is not None:
                    return None
                told.catch_up()
                index = told.index_of(unit)
                mode = told.play.ends[unit]
            ends.append(mode)
        return index, tuple(ends)
