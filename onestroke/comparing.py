"""Comparing: whether two systems are alike, what parts them, and the delays of alike systems."""

from onestroke.charts import Chart
from onestroke.machines import machine_of
from onestroke.partings import Partings, is_even, reached_pairs
from onestroke.rows import Row
from onestroke.strands import common_in, joined_strands, row_of_strand, size_of, strand_behind, strand_of_row
from onestroke.weaving import Loom


def machines_of(loom, one, other):
    """The machines of two systems."""
    return machine_of(Chart(one, loom)), machine_of(Chart(other, loom))


def partings_of(loom, one, other):
    """The partings of two machines, as many as are needed to part the first states, which are alive."""
    partings = Partings(loom, one, other, reached_pairs(one, other))
    partings.find_all((one.start, other.start))
    return partings


def are_alike(one, other):
    """Whether two systems are alike."""
    return parted(one, other) is None


def parted(one, other):
    """None if two systems are alike, otherwise a shortest list of keys that parts them."""
    loom = Loom()
    mine, yours = machines_of(loom, one, other)
    if mine.start is None:
        return None if yours.start is None else yours.way(yours.start)
    if yours.start is None:
        return mine.way(mine.start)
    return partings_of(loom, mine, yours).shortest((mine.start, yours.start))


def delays(one, other):
    """A delay table; None if there is none."""
    loom = Loom()
    mine, yours = machines_of(loom, one, other)
    if mine.start is None or yours.start is None:
        return {} if mine.start is None and yours.start is None else None
    partings = partings_of(loom, mine, yours)
    if partings.shortest((mine.start, yours.start)) is not None:
        return None
    found = partings.delays()
    return {pair: (row_of_strand(loom, found[pair][0]), row_of_strand(loom, found[pair][1])) for pair in found}


def is_delay(value):
    """Whether a value is a pair of rows, of which at least one is empty."""
    if not isinstance(value, tuple) or len(value) != 2:
        return False
    if not isinstance(value[0], Row) or not isinstance(value[1], Row):
        return False
    return value[0].size == 0 or value[1].size == 0


def is_pair_of_states(one, other, value):
    """Whether a value is a pair of alive states of two machines, both at rest or neither."""
    if not isinstance(value, tuple) or len(value) != 2 or value[0] not in one.nearest or value[1] not in other.nearest:
        return False
    return (value[0] in one.resting) == (value[1] in other.resting)


def leads_on(partings, pair, key, ahead):
    """Whether the strokes of a key lead from a pair to one with the right delay, or in both systems nowhere."""
    loom = partings.loom
    move, more = partings.one.move(pair[0], key), partings.other.move(pair[1], key)
    if move is None or more is None:
        return move is None and more is None
    after = (move[1], more[1])
    if after not in ahead:
        return False
    mine, yours = joined_strands(loom, ahead[pair][0], move[0]), joined_strands(loom, ahead[pair][1], more[0])
    many = common_in(loom, mine, yours)
    left = strand_behind(loom, mine, size_of(mine) - many), strand_behind(loom, yours, size_of(yours) - many)
    return partings.mark(left) == partings.mark(ahead[after])


def is_delays(one, other, value):
    """Whether any value is a delay table."""
    if not isinstance(value, dict) or not all([is_delay(value[pair]) for pair in value]):
        return False
    loom = Loom()
    mine, yours = machines_of(loom, one, other)
    if not all([is_pair_of_states(mine, yours, pair) for pair in value]):
        return False
    if mine.start is None or yours.start is None:
        return mine.start is None and yours.start is None and len(value) == 0
    start = (mine.start, yours.start)
    ahead = {pair: (strand_of_row(loom, value[pair][0]), strand_of_row(loom, value[pair][1])) for pair in value}
    even = [pair for pair in ahead if pair == start or pair[0] in mine.resting]
    if start not in ahead or not all([is_even(ahead[pair]) for pair in even]):
        return False
    partings = Partings(loom, mine, yours, [])
    return all([leads_on(partings, pair, key, ahead) for pair in ahead for key in partings.alphabet])
