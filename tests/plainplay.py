"""Strokes played item by item on plain lists, as [20] to [22] and [30] of the document tell it.

Bodies are plain here, too: a body is a list of items, an item is ("say", command), ("press", key), ("go", mode) or
("times", number, body). A book is a dict from pairs (mode, key) to bodies. Of the package, only the constructors of
items, bodies and books are used, to make the same book of it.
"""

from onestroke.bodies import Body, Go, Press, Say, Times
from onestroke.books import Book

COMMANDS = ("x", "y", "z", "xx", "abcdefgh")


class Again(Exception):
    """A stroke begins while it is being done: what was said before it began first, since then, and what is open."""

    def __init__(self, said, since, loop):
        self.said = said
        self.since = since
        self.loop = loop


class Player:
    """Does one stroke, item by item."""

    def __init__(self, bodies):
        self.bodies = bodies
        self.said = []
        self.open = {}

    def press(self, mode, key):
        pair = (mode, key)
        if pair not in self.bodies:
            return mode
        if pair in self.open:
            raise Again(self.said, self.open[pair], tuple(self.open) + (pair,))
        self.open[pair] = len(self.said)
        mode = self.body(mode, self.bodies[pair])
        del self.open[pair]
        return mode

    def body(self, mode, items):
        for item in items:
            if item[0] == "say":
                self.said.append(item[1])
            elif item[0] == "press":
                mode = self.press(mode, item[1])
            elif item[0] == "go":
                mode = item[1]
            else:
                for _ in range(item[1]):
                    mode = self.body(mode, item[2])
        return mode


def played(bodies, mode, key):
    """(commands, None, mode) if the stroke ends, otherwise (front, ring, None)."""
    player = Player(bodies)
    try:
        mode = player.press(mode, key)
    except Again as again:
        return again.said[:again.since], again.said[again.since:], None
    return player.said, None, mode


def loop(bodies, mode, key):
    """What loop_of is."""
    try:
        Player(bodies).press(mode, key)
    except Again as again:
        return again.loop
    return None


def pressed(bodies, mode, front, ring):
    """What a book says when words are pressed in it, one by one, and the words of a ring again and again."""
    said = []
    for word in front:
        more, again, mode = played(bodies, mode, word)
        said = said + more
        if again is not None:
            return said, again, None
    if ring is None:
        return said, None, mode
    # Where each turn of the ring began.
    modes = {}
    while ring and mode not in modes:
        modes[mode] = len(said)
        for word in ring:
            more, again, mode = played(bodies, mode, word)
            said = said + more
            if again is not None:
                return said, again, None
    at = modes[mode] if ring else len(said)
    return said[:at], said[at:], None


def chained(books, modes, key):
    """The same as by played for books whose commands are pressed in the next one, with a tuple of modes."""
    front, ring = [key], None
    ends = []
    for bodies, mode in zip(books, modes):
        front, ring, mode = pressed(bodies, mode, front, ring)
        ends.append(mode)
    return front, ring, tuple(ends) if ring is None else None


def command(front, ring, index):
    """The command with this index, None if there is none."""
    if index < len(front):
        return front[index]
    return ring[(index - len(front)) % len(ring)] if ring else None


def item_of(item):
    """The item of the package."""
    if item[0] == "times":
        return Times(item[1], *[item_of(inner) for inner in item[2]])
    return {"say": Say, "press": Press, "go": Go}[item[0]](item[1])


def body_of(items):
    """The body of the package."""
    return Body(*[item_of(item) for item in items])


def book_of(bodies, first="m", rest=("m",)):
    """The book of the package."""
    return Book(first, rest, {pair: body_of(items) for pair, items in bodies.items()})


def text_of(items):
    """The text of a body."""
    signs = {"say": "!", "press": "", "go": "@"}
    return " ".join(
        f"{item[1]}({text_of(item[2])})" if item[0] == "times" else signs[item[0]] + item[1] for item in items)


def some_items(draw, modes, keys, commands, depth, most=6):
    """A body, with Times of small numbers."""
    items = []
    for _ in range(draw.randint(0, most)):
        kind = draw.randrange(9)
        if kind < 3:
            items.append(("say", draw.choice(commands)))
        elif kind < 6:
            items.append(("press", draw.choice(keys)))
        elif kind < 7:
            items.append(("go", draw.choice(modes)))
        elif depth > 0:
            number = draw.choice((0, 1, 2, 2, 3, 5, 7))
            items.append(("times", number, some_items(draw, modes, keys, commands, depth - 1, 3)))
    return items


def some_bodies(draw, modes, keys, commands, most=4):
    """Bodies for some pairs. In wild books keys press any keys, in others keys ahead of them, so that strokes end."""
    bodies = {}
    share = draw.choice((0.5, 0.8, 1))
    wild = draw.choice((0, 0, 0.1, 0.3))
    for mode in modes:
        for at, key in enumerate(keys):
            if draw.random() < share:
                others = keys if draw.random() < wild else list(keys[:at]) + ["nokey"]
                bodies[mode, key] = some_items(draw, modes, others, commands, draw.choice((0, 0, 1, 2)), most)
    return bodies
