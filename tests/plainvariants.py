"""Plain systems that do the same as others, or nearly the same, written in other ways."""

from plainsystem import MODES, Plain, is_small, modes_of


def words_said(items):
    """The words of the items of a table book, and the mode to which they go."""
    return [item[1] for item in items[:-1]], items[-1][1]


def is_table(system):
    """Whether each body of a system of one book says words and goes to a mode."""
    return len(system.books) == 1 and all(
        items and items[-1][0] == "go" and all(item[0] == "say" for item in items[:-1]) for items in system.bodies[0].values())


def shortened_to(row, ahead):
    """The longest beginning of a row with which another one begins."""
    many = 0
    while many < min(len(row), len(ahead)) and row[many] == ahead[many]:
        many += 1
    return row[:many]


def said_early(draw, system):
    """The same table book with commands said earlier, as far as they are certain; at the first mode nothing is."""
    first, rest, bodies = system.books[0]
    certain = {state[0]: row for state, row in system.certain().items()}
    early = {mode: row[:draw.randint(0, len(row))] for mode, row in certain.items()}
    early[first] = []
    # Each stroke hands over what the mode has in advance: that is there, or the mode has less.
    changed = True
    while changed:
        changed = False
        for (mode, _), items in bodies.items():
            said, after = words_said(items)
            if early.get(mode) and after in early:
                row = shortened_to(early[mode], said + early[after])
                changed = changed or row != early[mode]
                early[mode] = row
    found = {}
    for (mode, key), items in bodies.items():
        said, after = words_said(items)
        if mode in early and after in early:
            said = (said + early[after])[len(early[mode]):]
        if len(said) > 5:
            return system
        found[mode, key] = [("say", word) for word in said] + [("go", after)]
    return Plain([(first, rest, found)])


def exchanged(items, old, modes, draw):
    """The items with some of their Go to an old mode going to another one."""
    found = []
    for item in items:
        if item[0] == "go" and item[1] == old:
            found.append(("go", draw.choice(modes)))
        elif item[0] == "times":
            found.append(("times", item[1], exchanged(item[2], old, modes, draw)))
        else:
            found.append(item)
    return found


def with_book(system, at, book):
    """The system with another book at a place."""
    return Plain(system.books[:at] + [book] + system.books[at + 1:])


def mode_twice(draw, system):
    """The same with a mode twice."""
    at = draw.randrange(len(system.books))
    first, rest, bodies = system.books[at]
    names = modes_of((first, rest, bodies))
    left = [mode for mode in MODES if mode not in names]
    states = len(system.states) // len(names) * (len(names) + 1)
    if not left or states > 36:
        return system
    old, new = draw.choice(sorted(names)), left[0]
    found = {pair: exchanged(items, old, [old, new], draw) for pair, items in bodies.items()}
    for (mode, key), items in bodies.items():
        if mode == old:
            found[new, key] = exchanged(items, old, [old, new], draw)
    return with_book(system, at, (
        new if first == old and draw.random() < 0.5 else first, tuple(rest) + ((new,) if old in rest else ()), found))


def written_otherwise(draw, system):
    """The same with bodies that are written in another way."""
    at = draw.randrange(len(system.books))
    first, rest, bodies = system.books[at]
    found = {}
    for pair, items in bodies.items():
        kind = draw.randrange(5)
        depth = any(item[0] == "times" for item in items)
        if kind == 0 and not depth:
            items = [("times", 1, items)]
        elif kind == 1 and len(items) < 6:
            items = [("times", 0, [("say", "q"), ("press", pair[1])])] + items
        elif kind == 2 and len(items) < 6:
            items = items + [("press", "nobody")]
        elif kind == 3 and len(items) < 6 and not depth:
            items = [("times", 1, items[:2])] + items[2:]
        found[pair] = items
    return with_book(system, at, (first, rest, found))


def with_idle_key(draw, system):
    """The same with a key that does nothing, or that goes where it is."""
    first, rest, bodies = system.books[0]
    if len({key for _, key in bodies}) > 4:
        return system
    names = sorted(modes_of((first, rest, bodies)))
    found = dict(bodies)
    for mode in names:
        if draw.random() < 0.7:
            found[mode, "idle"] = draw.choice(([], [("go", mode)], [("press", "nobody")], [("times", 5, [("go", mode)])]))
    return with_book(system, 0, (first, rest, found))


def with_more_modes(draw, system):
    """The same with a mode that no row reaches."""
    at = draw.randrange(len(system.books))
    first, rest, bodies = system.books[at]
    names = modes_of((first, rest, bodies))
    left = [mode for mode in MODES if mode not in names]
    if not left or len(system.states) // len(names) * (len(names) + 1) > 36:
        return system
    found = dict(bodies)
    for key in sorted({key for _, key in bodies}):
        found[left[0], key] = [("say", draw.choice("xyz")), ("go", draw.choice(sorted(names) + left[:1]))]
    return with_book(system, at, (first, tuple(rest) + tuple(left[:1] if draw.random() < 0.5 else ()), found))


def with_passing_book(draw, system):
    """The same with a book behind it that passes all commands on."""
    if len(system.books) == 3:
        return system
    said = sorted({word for state in system.states for key in system.bound for part in system.stroke(state, key)[:2] for word in part or ()})
    if len(said) > 6:
        return system
    return Plain(system.books + [("m", ("m",), {("m", word): [("say", word)] for word in said})])


CHANGES = (mode_twice, written_otherwise, with_idle_key, with_more_modes, with_passing_book)


def variant(draw, system):
    """A system that is alike."""
    found = system
    if is_table(system) and draw.random() < 0.6:
        found = said_early(draw, found)
    for _ in range(draw.randint(0, 3)):
        found = draw.choice(CHANGES)(draw, found)
    return found if is_small(found) else system


def one_change(draw, system):
    """A system with one place changed; perhaps it is alike all the same."""
    at = draw.randrange(len(system.books))
    first, rest, bodies = system.books[at]
    names = sorted(modes_of((first, rest, bodies)))
    found = dict(bodies)
    kind = draw.randrange(6)
    if kind == 0:
        rest = tuple(mode for mode in names if (mode in rest) != (mode == draw.choice(names)))
    elif kind == 1:
        first = draw.choice(names)
    elif found:
        pair = draw.choice(sorted(found))
        items = list(found[pair])
        place = draw.randint(0, len(items))
        if kind == 2 and len(items) < 6:
            items.insert(place, ("say", draw.choice("xyz")))
        elif kind == 3 and items:
            items.pop(place - 1)
        elif kind == 4 and len(items) < 6:
            items.insert(place, ("go", draw.choice(names)))
        else:
            del found[pair]
        if pair in found:
            found[pair] = items
    changed = with_book(system, at, (first, rest, found))
    return changed if len(changed.states) <= 36 and is_small(changed) else system
