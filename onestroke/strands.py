"""Strands: rows as threads of one loom. None stands for the empty row."""

from onestroke.rows import Row, letters, row_with
from onestroke.scripts import EMPTY
from onestroke.weaving import Loom, Weaver


def size_of(strand):
    """How many words a strand has."""
    return 0 if strand is None else strand.many


def joined_strands(loom, one, other):
    """A strand with another one behind it."""
    if one is None or other is None:
        return other if one is None else one
    return loom.tied(one, other)


def mark_of(loom, strand):
    """A number that is the same for equal strands."""
    return EMPTY if strand is None else loom.form(strand)


def row_of_strand(loom, strand):
    """The row of a strand."""
    if strand is None:
        return Row()
    return row_with(loom.order.tables_with(loom.form(strand)), strand.many)


def strand_of_row(loom, row):
    """The strand of a row."""
    entries = letters(row)
    return Weaver(loom, entries).thread_at(len(entries) - 1)


def strand_ahead(loom, strand, many):
    """The strand of the first words, so many."""
    pieces = []
    while many > 0:
        if many == strand.many:
            pieces.append(strand)
            many = 0
        elif strand.times > 1:
            whole = many // strand.opening.many
            if whole > 0:
                pieces.append(loom.power(strand.opening, whole))
            many = many - whole * strand.opening.many
            strand = strand.opening
        elif many < strand.opening.many:
            strand = strand.opening
        else:
            pieces.append(strand.opening)
            many = many - strand.opening.many
            strand = strand.closing
    found = None
    # The last pieces are the least ones, so they are put together first.
    for piece in pieces[::-1]:
        found = joined_strands(loom, piece, found)
    return found


def strand_behind(loom, strand, many):
    """The strand of the last words, so many."""
    pieces = []
    while many > 0:
        if many == strand.many:
            pieces.append(strand)
            many = 0
        elif strand.times > 1:
            whole = many // strand.closing.many
            if whole > 0:
                pieces.append(loom.power(strand.closing, whole))
            many = many - whole * strand.closing.many
            strand = strand.closing
        elif many < strand.closing.many:
            strand = strand.closing
        else:
            pieces.append(strand.closing)
            many = many - strand.closing.many
            strand = strand.opening
    found = None
    for piece in pieces[::-1]:
        found = joined_strands(loom, found, piece)
    return found


def common_in(loom, one, other):
    """The size of the longest common beginning of two strands.

    Both are read side by side, by letters as great as both have them.
    """
    order = loom.order
    mine = [] if one is None else [(loom.form(one), 1)]
    yours = [] if other is None else [(loom.form(other), 1)]
    many = 0
    while mine and yours:
        low, high = mine[-1][0], yours[-1][0]
        if low == high:
            shared = min(mine[-1][1], yours[-1][1])
            many = many + shared * order.sizes[low]
            drop(mine, shared)
            drop(yours, shared)
        elif order.levels[low] == 0 and order.levels[high] == 0:
            return many
        else:
            difference = order.levels[low] - order.levels[high]
            if difference >= 0:
                spread_out(mine, order)
            if difference <= 0:
                spread_out(yours, order)
    return many


def drop(pieces, many):
    """Takes so many of the letter at the end of a list of pairs away."""
    number, times = pieces.pop()
    if times > many:
        pieces.append((number, times - many))


def spread_out(pieces, order):
    """Makes one of the letter at the end of a list of pairs the pairs that it stands for, the first one at the end."""
    number = pieces[-1][0]
    drop(pieces, 1)
    pieces.extend(list(order.contents[number][::-1]))


def rows_of(nodes, wanted):
    """The list of the rows for which wanted entries stand."""
    loom = Loom()
    weaver = Weaver(loom, nodes)
    return [row_of_strand(loom, weaver.thread_at(index)) for index in wanted]
