"""The smallest book of a system: the same commands, each handed over as early as it is certain."""

from onestroke.beginnings import beginnings_of
from onestroke.charts import chart_of
from onestroke.errors import OutOfRange
from onestroke.machines import Machine
from onestroke.partings import Partings
from onestroke.rows import Row, row_of_all
from onestroke.strands import joined_strands, mark_of, row_of_strand, size_of, strand_behind
from onestroke.values import is_within


class Small:
    """A smallest book: what is handed over at the beginning, and by each key at each number."""

    def __init__(self, head, size, rest, bound, steps):
        self._head = head
        self._size = size
        self._rest = rest
        self._bound = bound
        # The tuples (row, number) for pairs (number, key). What is lost has none.
        self._steps = steps

    @property
    def head(self):
        """What is handed over at the beginning."""
        return self._head

    @property
    def size(self):
        """How many numbers there are."""
        return self._size

    @property
    def rest(self):
        """The ascending tuple of the numbers at rest."""
        return self._rest

    @property
    def bound(self):
        """The ascending tuple of the keys."""
        return self._bound

    def step(self, number, key):
        """What a key hands over at a number, and the next number; None if it is lost."""
        if not is_within(number, 0, self._size - 1):
            raise OutOfRange(number)
        if key not in self._bound:
            return Row(), number
        return self._steps.get((number, key))

    def commands(self, pressed):
        """The head and all that a list of words hands over; None if it does not count."""
        if self._size == 0:
            return None
        rows = [self._head]
        number = 0
        for key in pressed:
            told = self.step(number, key)
            if told is None:
                return None
            rows.append(told[0])
            number = told[1]
        return row_of_all(rows) if number in self._rest else None

    def __eq__(self, other):
        return (isinstance(other, Small) and self._size == other._size and self._rest == other._rest
                and self._bound == other._bound and self._head == other._head and self._steps == other._steps)


def handed_moves(beginnings):
    """The moves of a machine that hand over what is certain, and no more."""
    machine, loom = beginnings.machine, beginnings.loom
    certain = {state: beginnings.strand_from(state) for state in beginnings.states}
    moves = {}
    for state, key in machine.moves:
        said, after = machine.moves[(state, key)]
        strand = joined_strands(loom, said, certain[after])
        moves[(state, key)] = (strand_behind(loom, strand, size_of(strand) - beginnings.sizes[state]), after)
    return moves


def numbers_of(values):
    """A number for each value of a dict, the same for equal ones."""
    numbers = {}
    known = {}
    for name in values:
        numbers[name] = known.setdefault(values[name], len(known))
    return numbers


def merged(beginnings, moves):
    """A number for each alive state, the same for states that are merged."""
    machine = beginnings.machine
    marks = {pair: mark_of(beginnings.loom, moves[pair][0]) for pair in moves}
    kinds = numbers_of({state: state in machine.resting for state in machine.nearest})
    while True:
        finer = numbers_of({state: told_of(machine, moves, marks, kinds, state) for state in kinds})
        if len(set([finer[state] for state in kinds])) == len(set([kinds[state] for state in kinds])):
            return kinds
        kinds = finer


def told_of(machine, moves, marks, kinds, state):
    """All that tells a state from another one, as far as the next states are told apart by their kinds."""
    told = [kinds[state]]
    for key in machine.alphabet:
        pair = (state, key)
        told.append((marks[pair], kinds[moves[pair][1]]) if pair in moves else None)
    return tuple(told)


def after_in(moves, state, key):
    """The state behind a move; None if there is none."""
    return moves[(state, key)][1] if (state, key) in moves else None


def first_met(machine, moves, kinds):
    """For each kind that is reached, in the order of the numbers: a state of this kind."""
    found = {kinds[machine.start]: machine.start}
    todo = [machine.start]
    while todo:
        reached = []
        for state in todo:
            for key in machine.alphabet:
                after = after_in(moves, state, key)
                if after is not None and kinds[after] not in found:
                    found[kinds[after]] = after
                    reached.append(after)
        todo = reached
    return found


def smallest_machine(beginnings):
    """The machine of the numbers of the smallest book."""
    machine = beginnings.machine
    if machine.start is None:
        return Machine((), None, {}, {})
    moves = handed_moves(beginnings)
    kinds = merged(beginnings, moves)
    chosen = first_met(machine, moves, kinds)
    numbers = {kind: number for number, kind in enumerate(chosen)}
    steps = {}
    for kind in chosen:
        for key in machine.alphabet:
            if (chosen[kind], key) in moves:
                strand, after = moves[(chosen[kind], key)]
                steps[(numbers[kind], key)] = (strand, numbers[kinds[after]])
    bound = [key for key in machine.alphabet if not is_idle(steps, len(numbers), key)]
    resting = {numbers[kind]: True for kind in chosen if chosen[kind] in machine.resting}
    return Machine(tuple(bound), 0, resting, {pair: steps[pair] for pair in steps if pair[1] in bound})


def is_idle(steps, many, key):
    """Whether a key hands over nothing and keeps the number at each of so many numbers."""
    return all([steps.get((number, key)) == (None, number) for number in range(many)])


def smallest(system):
    """The smallest book of a system."""
    beginnings = beginnings_of(chart_of(system))
    machine = smallest_machine(beginnings)
    first = beginnings.machine.start
    head = Row() if first is None else beginnings.row_from(first)
    steps = {}
    for pair in machine.moves:
        strand, after = machine.moves[pair]
        steps[pair] = (row_of_strand(beginnings.loom, strand), after)
    return Small(head, len(machine.nearest), tuple(sorted(list(machine.resting))), machine.alphabet, steps)


def apart(system):
    """A dict from all pairs of numbers of the smallest book, the less first, to a shortest list that parts them."""
    beginnings = beginnings_of(chart_of(system))
    machine = smallest_machine(beginnings)
    numbers = sorted(list(machine.nearest))
    partings = Partings(beginnings.loom, machine, machine, [(one, other) for one in numbers for other in numbers])
    partings.find_all(None)
    return {(one, other): partings.shortest((one, other)) for one in numbers for other in numbers if one < other}
