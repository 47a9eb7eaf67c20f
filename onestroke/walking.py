"""Walks: what comes of doing entries one after the other, from a state on.

Entries are told as the letters of a row are [13], but need not be folded: a
list, in which each entry is a leaf or a tuple of pairs (index, times) of
entries that are done in order, each so many times. What a leaf does, each kind
of walk tells by itself. A unit is a pair (index, state): an entry that is done
from this state on. What it does is told by its parts: pairs (units, times), a
tuple of units and how often they are done, one after the other.
"""


class Frame:
    """A unit that is being done: how many of its pairs are done, where that leads, and the parts so far."""

    def __init__(self, unit):
        self.unit = unit
        self.at = 0
        self.now = unit[1]
        self.parts = []


class Walk:
    """What units do, and the states at which they end, in the order in which they were done."""

    def __init__(self, nodes):
        self.nodes = nodes
        self.ends = {}
        self.parts = {}
        # The units that have parts, each behind those that it is made of.
        self.finished = []

    def pairs_at(self, index):
        """The pairs of an entry that is no leaf."""
        return self.nodes[index]

    def entered(self, index, state):
        """The unit that is done where an entry is done from a state on. The end of a leaf is known from then on."""
        return (index, state)

    def finish(self, unit):
        """Does a unit. Returns None if it ends, otherwise the frames that are open when it is certain that it does not.

        The last of them needs the unit of one of them.
        """
        if unit in self.ends:
            return None
        frames = [Frame(unit)]
        is_open = {unit: True}
        while frames:
            frame = frames[-1]
            needed = self.advance(frame)
            if needed is None:
                self.ends[frame.unit] = frame.now
                self.parts[frame.unit] = frame.parts
                self.finished.append(frame.unit)
                del is_open[frame.unit]
                frames.pop()
            elif needed in is_open:
                return frames
            else:
                is_open[needed] = True
                frames.append(Frame(needed))
        return None

    def advance(self, frame):
        """Does the pairs of a frame. Returns the first unit that is needed and not known, None at the end."""
        pairs = self.pairs_at(frame.unit[0])
        while frame.at < len(pairs):
            index, times = pairs[frame.at]
            if times == 1:
                unit = self.entered(index, frame.now)
                if unit not in self.ends:
                    return unit
                frame.parts.append(((unit,), 1))
                frame.now = self.ends[unit]
            else:
                parts, state, needed = self.done_times(index, times, frame.now)
                if needed is not None:
                    return needed
                frame.parts.extend(parts)
                frame.now = state
            frame.at = frame.at + 1
        return None

    def stopped(self, frame):
        """The parts of a frame ahead of the unit that it needs, and this unit."""
        index, times = self.pairs_at(frame.unit[0])[frame.at]
        parts, _, needed = self.done_times(index, times, frame.now)
        return frame.parts + parts, needed

    def halves(self, frames):
        """The parts of frames ahead of the unit that the last one needs again, and those from there on."""
        stops = [self.stopped(frame) for frame in frames]
        at = [frame.unit for frame in frames].index(stops[-1][1])
        front = [part for parts, _ in stops[:at] for part in parts]
        ring = [part for parts, _ in stops[at:] for part in parts]
        return front, ring

    def done_times(self, index, times, state):
        """The parts of an entry that is done so many times, the state behind them, and None.

        If a unit is needed that is not known: the parts ahead of it, the state there, and this unit.
        """
        done = []
        while len(done) < times:
            unit = self.entered(index, state)
            if unit in done:
                return turned(done, done.index(unit), times)
            if unit not in self.ends:
                return singles(done), state, unit
            done.append(unit)
            state = self.ends[unit]
        return singles(done), state, None


def singles(units):
    """The parts in which units are done once each."""
    return [((unit,), 1) for unit in units]


def turned(done, at, times):
    """The same as by done_times, where the units that are done from a place on come again and again."""
    ring = done[at:]
    return turned_parts(done, at, times), ring[(times - at) % len(ring)][1], None


def turned_parts(done, at, times):
    """The parts of units that are done so many times, where those from a place on come again and again."""
    ring = done[at:]
    whole = (times - at) // len(ring)
    rest = (times - at) % len(ring)
    return singles(done[:at]) + [(tuple(ring), whole)] + singles(ring[:rest])
