"""Cutting: places in rows, parts of rows, and the longest common beginning of two rows."""

from onestroke.folding import folded, whole_stack
from onestroke.tables import numbers_in, sizes_of


def head_stack(tables, sizes, many):
    """The stack that stands for the first words of a row, so many of them, at least one."""
    level = len(tables) - 1
    number = 0
    if many == sizes[level][number]:
        return whole_stack(tables)
    stack = None
    while many > 0:
        letter = tables[level][number]
        level = level - 1
        pairs = []
        for number, times in letter:
            size = sizes[level][number]
            whole = min(times, many // size)
            many = many - whole * size
            if whole > 0:
                pairs.append((number, whole))
            if whole < times:
                break
        if pairs:
            stack = (level, tuple(pairs), stack)
    return stack


def tail_stack(tables, sizes, start):
    """The stack that stands for the words of a row from a place on, at least one."""
    level = len(tables) - 1
    number = 0
    if start == 0:
        return whole_stack(tables)
    stack = None
    while start > 0:
        letter = tables[level][number]
        level = level - 1
        for at, (number, times) in enumerate(letter):
            size = sizes[level][number]
            whole = min(times, start // size)
            start = start - whole * size
            if whole < times:
                break
        left = times - whole - (1 if start > 0 else 0)
        pairs = (((number, left),) if left > 0 else ()) + letter[at + 1:]
        if pairs:
            stack = (level, pairs, stack)
    return stack


def part_of(tables, sizes, start, many):
    """The tables of so many words of a row, at least one, from a place on."""
    if start + many < sizes[-1][0]:
        tables = folded(tables, head_stack(tables, sizes, start + many), [], (), None)
        sizes = sizes_of(tables)
    if start > 0:
        tables = folded((), None, [], tables, tail_stack(tables, sizes, start))
    return tables


def word_at(tables, sizes, index):
    """The word of a row at a place."""
    number = 0
    for level in range(len(tables) - 1, 0, -1):
        for inner, times in tables[level][number]:
            size = sizes[level - 1][inner]
            if index < size * times:
                break
            index = index - size * times
        number = inner
        index = index % size
    return tables[0][number]


def pieces_of(stack):
    """The pairs of a stack at the right of a zone as a list of (level, number, times), the first pair at the end."""
    pieces = []
    while stack is not None:
        level, pairs, stack = stack
        pieces.extend([(level, number, times) for number, times in pairs])
    return pieces[::-1]


def without_first(row, many):
    """What stands behind so many of the first letter: a row is None or (level, number, times, row)."""
    level, number, times, rest = row
    if many < times:
        return (level, number, times - many, rest)
    return rest


def spread(tables, row):
    """The same row with its first letter taken once and made the letters that it stands for."""
    level, number = row[0], row[1]
    rest = without_first(row, 1)
    for inner, times in tables[level][number][::-1]:
        rest = (level - 1, inner, times, rest)
    return rest


def common_size(one, other, sizes):
    """The size of the longest common beginning of two rows, with the sizes of the one.

    Both rows are read side by side, by letters as great as both have them.
    """
    numbers = numbers_in(one, other)
    mine = (len(one) - 1, 0, 1, None) if one else None
    yours = (len(other) - 1, 0, 1, None) if other else None
    many = 0
    while mine is not None and yours is not None:
        low, high = mine[0], yours[0]
        if low == high and numbers[low][yours[1]] == mine[1]:
            shared = min(mine[2], yours[2])
            many = many + shared * sizes[low][mine[1]]
            mine, yours = without_first(mine, shared), without_first(yours, shared)
        elif low == 0 and high == 0:
            return many
        else:
            if low >= high:
                mine = spread(one, mine)
            if high >= low:
                yours = spread(other, yours)
    return many
