"""Spelling: whether a list is the list of the letters of a row."""

from onestroke.limits import SIZE
from onestroke.tables import levels_of, listed_letters, tables_of
from onestroke.values import is_whole, is_within, is_word


def is_pair(value, index):
    """Whether a value is a pair (index, times) in the entry at this index."""
    if not isinstance(value, tuple) or len(value) != 2:
        return False
    return is_within(value[0], 0, index - 1) and is_whole(value[1]) and value[1] >= 1


def is_entry(value, index):
    """Whether a value is a word, or a tuple of pairs with unlike neighbours, as an entry at this index."""
    if not isinstance(value, tuple):
        return is_word(value)
    if len(value) == 0 or not all([is_pair(pair, index) for pair in value]):
        return False
    return all([pair[0] != after[0] for pair, after in zip(value, value[1:])])


def is_uncut(letter):
    """Whether a letter has no pair inside that is less than both neighbours."""
    numbers = [number for number, _ in letter]
    for before, number, after in zip(numbers, numbers[1:], numbers[2:]):
        if number < before and number < after:
            return False
    return True


def is_cut(before, letter):
    """Whether there is a cut between two letters, one behind the other."""
    if len(letter) == 1:
        return False
    return letter[0][0] < letter[1][0] and letter[0][0] < before[-1][0]


def neighbours_in(letters, neighbours):
    """The neighbours among the letters of the level below, where these letters and neighbours of them occur."""
    inside = [(pair[0], after[0]) for letter in letters for pair, after in zip(letter, letter[1:])]
    again = [(number, number) for letter in letters for number, times in letter if times > 1]
    across = [(letters[before][-1][0], letters[behind][0][0]) for before, behind in neighbours]
    return sorted(set(inside + again + across))


def is_folded(tables):
    """Whether the letters are cut as folding cuts them: within each letter nowhere, and between any neighbours."""
    if len(tables) > 1 and len(tables[-1][0]) == 1 and tables[-1][0][0][1] == 1:
        return False
    neighbours = []
    for letters in tables[:0:-1]:
        if not all([is_uncut(letter) for letter in letters]):
            return False
        if not all([is_cut(letters[before], letters[behind]) for before, behind in neighbours]):
            return False
        neighbours = neighbours_in(letters, neighbours)
    return True


def is_small(tables):
    """Whether no letter stands for more than 10 ** 4000 words."""
    sizes = []
    for level, letters in enumerate(tables):
        if level == 0:
            sizes = [1 for _ in letters]
        else:
            sizes = [sum([sizes[at] * times for at, times in letter]) for letter in letters]
        # Asked at each level, as the numbers would soon be too long.
        if max(sizes, default=0) > SIZE:
            return False
    return True


def spelled_tables(value):
    """The tables of the row with these letters; None if a value is not the list of the letters of a row."""
    if not isinstance(value, list) or not all([is_entry(entry, index) for index, entry in enumerate(value)]):
        return None
    levels = levels_of(value)
    if levels is None:
        return None
    tables = tables_of(value, levels)
    if listed_letters(tables) == value and is_folded(tables) and is_small(tables):
        return tables
    return None
