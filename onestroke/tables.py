"""Tables of letters, the form in which rows are kept.

The tables of a row are a tuple with one table for each level of its letters.
A table is the ascending tuple of the different letters of this level that the
form of the row is made of. A letter of level 0 is a word. Any other letter is
a tuple of pairs (number, times), with the number of a letter in the table
below. As each table ascends, numbers are ordered as their letters are. The
last table holds the form alone; the empty row has no tables. So rows are equal
exactly if their tables are.
"""


def renumbered(letters, numbers):
    """The letters, made of letters with other numbers; None keeps the numbers."""
    if numbers is None:
        return list(letters)
    return [tuple([(numbers[at], times) for at, times in letter]) for letter in letters]


def layer(tables, level, numbers):
    """The letters of a level, as by renumbered; none above the form."""
    if level < len(tables):
        return renumbered(tables[level], numbers)
    return []


def sizes_of(tables):
    """How many words each letter stands for: a list for each table."""
    sizes = []
    for level, letters in enumerate(tables):
        if level == 0:
            sizes.append([1 for _ in letters])
        else:
            below = sizes[level - 1]
            sizes.append([sum([below[at] * times for at, times in letter]) for letter in letters])
    return sizes


def used_numbers(tables, top):
    """For each level the ascending numbers of the letters that a letter of the last level is made of."""
    used = [top]
    levels = [used]
    for letters in tables[:0:-1]:
        used = sorted(set([at for number in used for at, _ in letters[number]]))
        levels.append(used)
    return levels[::-1]


def cleaned(tables, top):
    """The tables with this letter of the last level as the form, without the letters that it is not made of."""
    result = []
    numbers = None
    for letters, used in zip(tables, used_numbers(tables, top)):
        complete = len(used) == len(letters)
        chosen = letters if complete else [letters[number] for number in used]
        result.append(tuple(renumbered(chosen, numbers)))
        numbers = None if complete else {number: at for at, number in enumerate(used)}
    return tuple(result)


def numbers_in(one, other):
    """For each level of both: the number in the one of each letter of the other, None for one that is not there."""
    found = []
    for level, letters in enumerate(one[:len(other)]):
        place = {letter: number for number, letter in enumerate(letters)}
        below = found[level - 1] if level > 0 else None
        found.append([place.get(letter) for letter in renumbered(other[level], below)])
    return found


def listed_letters(tables):
    """The list of the letters, each behind the letters that it is made of, the form at the end."""
    entries = []
    indexes = {}
    todo = [(len(tables) - 1, 0, False)] if tables else []
    while todo:
        level, number, is_ready = todo.pop()
        if (level, number) in indexes:
            continue
        letter = tables[level][number]
        if level == 0 or is_ready:
            indexes[(level, number)] = len(entries)
            if level > 0:
                letter = tuple([(indexes[(level - 1, at)], times) for at, times in letter])
            entries.append(letter)
        else:
            todo.append((level, number, True))
            todo.extend([(level - 1, at, False) for at, _ in letter[::-1]])
    return entries


def levels_of(entries):
    """The levels of listed letters; None if a tuple has letters of unlike levels."""
    levels = []
    for entry in entries:
        if isinstance(entry, str):
            levels.append(0)
            continue
        below = levels[entry[0][0]]
        if any([levels[at] != below for at, _ in entry]):
            return None
        levels.append(below + 1)
    return levels


def tables_of(entries, levels):
    """Tables of listed letters with their levels; whether they are those of a row is not asked."""
    indexes = [[] for _ in range(max(levels, default=-1) + 1)]
    for index, level in enumerate(levels):
        indexes[level].append(index)
    numbers = {}
    tables = []
    for level, chosen in enumerate(indexes):
        letters = renumbered([entries[index] for index in chosen], numbers if level > 0 else None)
        known = sorted(set(letters))
        place = {letter: number for number, letter in enumerate(known)}
        for index, letter in zip(chosen, letters):
            numbers[index] = place[letter]
        tables.append(tuple(known))
    return tuple(tables)
