"""Folding: the tables of rows that are put together from other rows.

Wherever two rows meet, each level changes only where they meet: a pair is cut
or not because of its two neighbours alone. So the letters on both sides stay
as they are, and only a zone between them is folded anew, level by level. What
stands on a side of the zone is a stack: None, or a tuple (level, pairs, stack)
of pairs of this level, next to the zone, and a stack of higher levels behind
them. All its letters above the level that is being folded are whole ones: a
cut is ahead of each, and each has two pairs or more or begins its whole row.
"""

from onestroke.tables import cleaned, layer, sizes_of

# The ends of pairs: the last one stands next to a zone on the right, the first one next to a zone on the left.
LAST = -1
FIRST = 0


def whole_stack(tables):
    """The stack that stands for all of a row."""
    return (len(tables) - 1, ((0, 1),), None)


def shortened(pairs, end):
    """The number of the letter at an end of pairs, and the pairs with this letter once less."""
    number, times = pairs[end]
    again = ((number, times - 1),) if times > 1 else ()
    if end == FIRST:
        return number, again + pairs[1:]
    return number, pairs[:-1] + again


def taken(tables, stack, level, end):
    """The number of the letter of a level at the end of a stack, and the stack without this letter."""
    high, pairs, stack = stack
    number, pairs = shortened(pairs, end)
    if pairs:
        stack = (high, pairs, stack)
    while high > level:
        number, pairs = shortened(tables[high][number], end)
        high = high - 1
        if pairs:
            stack = (high, pairs, stack)
    return number, stack


def opened(tables, stack, level, end):
    """The pairs of a level that join the zone, and the rest of the stack.

    These are the pairs that the stack has of this level, and those of the next
    whole letter, as its pair at the end may be cut or joined otherwise now.
    """
    pairs = ()
    if stack is not None and stack[0] == level:
        _, pairs, stack = stack
    if stack is None:
        return pairs, None
    number, stack = taken(tables, stack, level + 1, end)
    more = tables[level + 1][number]
    if end == FIRST:
        return pairs + more, stack
    return more + pairs, stack


def moved(pairs, numbers):
    """The pairs with other numbers; None keeps the numbers."""
    if numbers is None:
        return list(pairs)
    return [(numbers[at], times) for at, times in pairs]


def runs_of(pairs):
    """The pairs, with neighbours of the same letter made one pair."""
    runs = []
    for number, times in pairs:
        if runs and runs[-1][0] == number:
            runs[-1] = (number, runs[-1][1] + times)
        else:
            runs.append((number, times))
    return runs


def parts_of(pairs):
    """The letters that the pairs become: they are cut ahead of each pair that is less than both neighbours."""
    parts = []
    start = 0
    for at in range(1, len(pairs) - 1):
        number = pairs[at][0]
        if number < pairs[at - 1][0] and number < pairs[at + 1][0]:
            parts.append(tuple(pairs[start:at]))
            start = at
    parts.append(tuple(pairs[start:]))
    return parts


def places_of(letters, place):
    """The new numbers of letters, None if these are all letters that have a place, so that no number changes."""
    if len(letters) == len(place):
        return None
    return [place[letter] for letter in letters]


def folded(one, left, fresh, other, right):
    """The tables of a stack over the one tables, a list of words, and a stack over the other tables."""
    tables = []
    numbers = others = None
    same = True
    while True:
        level = len(tables)
        # As long as both have the same tables, the work for the other ones is spared.
        same = same and one[level:level + 1] == other[level:level + 1]
        letters = layer(one, level, numbers)
        more = [] if same else layer(other, level, others)
        known = sorted(set(letters + more + fresh))
        tables.append(known)
        place = {letter: number for number, letter in enumerate(known)}
        numbers = places_of(letters, place)
        others = numbers if same else places_of(more, place)
        before, left = opened(one, left, level, LAST)
        behind, right = opened(other, right, level, FIRST)
        between = [(place[letter], 1) for letter in fresh]
        zone = runs_of(moved(before, numbers) + between + moved(behind, others))
        if left is None and right is None and len(zone) == 1 and zone[0][1] == 1:
            return cleaned(tables, zone[0][0])
        fresh = parts_of(zone)


def tables_of_words(words):
    """The tables of a row of words."""
    if not words:
        return ()
    return folded((), None, list(words), (), None)


def joined(one, other):
    """The tables of a row and another one behind it."""
    if not one:
        return other
    if not other:
        return one
    return folded(one, whole_stack(one), [], other, whole_stack(other))


def long_run(tables, size, many):
    """The place (level, number, at) of a pair in the tables of a row of this size, said so many times.

    The pair stands for more than half of all words, and the size of its letter,
    which is returned beside the place, divides that of the row. None if there
    is no such pair.
    """
    sizes = sizes_of(tables)
    for level in range(1, len(tables)):
        below = sizes[level - 1]
        for number, letter in enumerate(tables[level]):
            for at, (inner, times) in enumerate(letter):
                if times > 1 and 2 * times * below[inner] > size * many and size % below[inner] == 0:
                    return (level, number, at), below[inner]
    return None


def stretched(tables, place, more):
    """The tables with the pair at a place so many times more."""
    level, number, at = place
    letters = tables[level]
    letter = letters[number]
    inner, times = letter[at]
    letter = letter[:at] + ((inner, times + more),) + letter[at + 1:]
    letters = letters[:number] + (letter,) + letters[number + 1:]
    return tables[:level] + (letters,) + tables[level + 1:]


def repeated(one, size, number):
    """The tables of a row of this size, said so many times.

    After a few doublings one run stands for more than half of the row. Each
    further time makes just this run longer: the letters around it are cut as
    before, and it stays the only run of its letter that is so long, so no
    order changes either. So the times of this one pair tell the rest.
    """
    if number == 0 or not one:
        return ()
    tables = one
    shift = number.bit_length() - 1
    while shift > 0:
        many = 2 * (number >> shift)
        tables = joined(tables, tables)
        found = long_run(tables, size, many)
        if found is not None:
            place, inner = found
            return stretched(tables, place, (number - many) * (size // inner))
        shift = shift - 1
        if (number >> shift) & 1:
            tables = joined(tables, one)
    return tables
