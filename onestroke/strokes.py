"""Strokes of books and chains, and their outcomes."""

from onestroke.books import books_of
from onestroke.errors import InvalidWords
from onestroke.playing import Play, Stream, passed
from onestroke.rows import Row
from onestroke.strands import rows_of
from onestroke.systems import check_state, modes_in, state_with
from onestroke.values import is_whole, is_word


class Outcome:
    """What becomes of a stroke: a front of commands, a ring that comes again and again, and the state at the end.

    Without an end the state is None.
    """

    def __init__(self, front, ring, state):
        self._front = front
        self._ring = ring
        self._state = state

    @property
    def is_end(self):
        """Whether it ends."""
        return isinstance(self, Ends)

    def __eq__(self, other):
        return isinstance(other, Outcome) and self._state == other._state and parting_of(self, other) is None

    def command_at(self, index):
        """The command with this index."""
        return command_in(self._front, self._ring, index)

    def parting(self, other):
        """The index of the first command that only one of two outcomes has, or that differs; None without one."""
        return parting_of(self, other)


class Ends(Outcome):
    """The stroke ends: with these commands, at this state."""

    def __init__(self, row, state):
        Outcome.__init__(self, row, Row(), state)

    @property
    def row(self):
        """The row of its commands."""
        return self._front

    @property
    def state(self):
        """The state at which it ends."""
        return self._state

    @property
    def is_end(self):
        """True."""
        return True

    def __eq__(self, other):
        return isinstance(other, Ends) and self._front == other._front and self._state == other._state

    def command_at(self, index):
        """The command with this index."""
        return self._front[index]

    def parting(self, other):
        """The index of the first command that only one of two outcomes has, or that differs; None without one."""
        return parting_of(self, other)


class Never(Outcome):
    """The stroke never ends: after the front, the ring comes again and again."""

    def __init__(self, front, ring):
        Outcome.__init__(self, front, ring, None)

    @property
    def front(self):
        """The commands that come first."""
        return self._front

    @property
    def ring(self):
        """The commands that come again and again."""
        return self._ring

    @property
    def is_end(self):
        """False."""
        return False

    def __eq__(self, other):
        return isinstance(other, Never) and parting_of(self, other) is None

    def command_at(self, index):
        """The command with this index."""
        return command_in(self._front, self._ring, index)

    def parting(self, other):
        """The index of the first command that only one of two outcomes has, or that differs; None without one."""
        return parting_of(self, other)


def command_in(front, ring, index):
    """The command with this index of a front and a ring behind it."""
    if is_whole(index) and index >= front.size and ring.size > 0:
        return ring[(index - front.size) % ring.size]
    return front[index]


def parting_of(one, other):
    """The index of the first command that only one of two outcomes has, or that differs; None without one."""
    if one._front.size > other._front.size:
        one, other = other, one
    front, ring = one._front, one._ring
    many = front.common(other._front)
    if many < front.size:
        return many
    behind = other._front.part(many, other._front.size - many)
    if ring.size == 0:
        return None if behind.size == 0 and other._ring.size == 0 else many
    more = behind.common(beginning_of(ring, behind.size))
    if more < behind.size:
        return many + more
    found = parting_of_rings(ring_from(ring, more), other._ring)
    return None if found is None else many + more + found


def parting_of_rings(one, other):
    """The same for two rows, of which the one is not empty, that come again and again."""
    if other.size == 0:
        return 0
    if one.size > other.size:
        one, other = other, one
    many = other.common(beginning_of(one, other.size))
    if many < other.size:
        return many
    # The longer ring is the shorter one, so many times and more. Then they go on alike only if that is no matter.
    more = one.common(ring_from(one, many))
    return None if more == one.size else many + more


def beginning_of(ring, size):
    """The first commands, so many, of a ring that comes again and again."""
    return ring * (size // ring.size) + ring.part(0, size % ring.size)


def ring_from(ring, many):
    """The ring behind the first commands, so many, of a ring that comes again and again."""
    at = many % ring.size
    return ring.part(at, ring.size - at) + ring.part(0, at)


def check_stroke(system, state, key):
    """The errors of a state and a key."""
    check_state(system, state)
    if not is_word(key):
        raise InvalidWords(key)


def outcome_of(system, state, stream):
    """What becomes of a stream that is pressed in a system from a state on."""
    ends = []
    for book, mode in zip(books_of(system), modes_in(system, state)):
        stream, end = passed(stream, book, mode)
        ends.append(end)
    if stream.cycle is None:
        row = rows_of(stream.nodes, [stream.start])[0]
        return Ends(row, state_with(system, ends))
    front, ring = rows_of(stream.nodes, [stream.start, stream.cycle])
    return Never(front, ring)


def stroke(system, state, key):
    """What becomes of the stroke of a key, from a state on."""
    check_stroke(system, state, key)
    return outcome_of(system, state, Stream([key], 0, None))


def loop_of(book, mode, key):
    """The strokes that are being done when one of them begins again, and this one; None if the stroke ends."""
    check_stroke(book, mode, key)
    play = Play([key], book)
    frames = play.finish(play.entered(0, mode))
    if frames is None:
        return None
    units = [frame.unit for frame in frames] + [play.stopped(frames[-1])[1]]
    keys = {play.programs[pair]: pair[1] for pair in play.programs}
    return tuple([(unit[1], keys[unit[0]]) for unit in units if unit[0] in keys])
