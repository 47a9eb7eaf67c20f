"""Two wheels, one turned by the other: chains of up to 36 states that differ behind many keys alone."""

from onestroke.bodies import Body, Go, Press, Say, Times
from onestroke.books import Book

MODES = ("m", "n", "o", "p", "q", "r")


def turning(one, other, last="x"):
    """The second wheel goes on when the first one has turned once, and says a word when it has turned once itself."""
    first = Book("m", ["m"])
    for at in range(one):
        items = [Say("c")] if at == one - 1 else []
        first[MODES[at], "t"] = Body(*items, Go(MODES[(at + 1) % one]))
    second = Book("m", ["m"])
    for at in range(other):
        items = [Say(last)] if at == other - 1 else []
        second[MODES[at], "c"] = Body(*items, Go(MODES[(at + 1) % other]))
    return first + second


def written_otherwise(one, other):
    """The same, with modes of other names, keys that do nothing, and a book behind it that passes all on."""
    names = ("z", "y", "x", "w", "v", "u")
    first = Book("z", ["z"])
    for at in range(one):
        items = [Times(0, Press("t")), Times(1, Say("e"))] if at == one - 1 else []
        first[names[at], "t"] = Body(Go("z"), *items, Go(names[(at + 1) % one]))
        first[names[at], "idle"] = Body(Times(3, Press("nobody")))
    second = Book("z", ["z"])
    for at in range(other):
        items = [Say("d")] if at == other - 1 else []
        second[names[at], "e"] = Body(Go(names[(at + 1) % other]), *items)
    return first + second + Book("a", ["a"], {("a", "d"): Body(Say("x"))})


def both(one, other, at=0):
    """Each key of two turns one wheel; the first key turns both. The second wheel says a word at one of its modes."""
    first = Book("m", ["m"])
    second = Book("m", ["m"])
    for place in range(one):
        first[MODES[place], "a"] = Body(Say("t"), Go(MODES[(place + 1) % one]))
        first[MODES[place], "b"] = Body(Say("u"))
    for place in range(other):
        second[MODES[place], "t"] = Body(Go(MODES[(place + 1) % other]), *([Say("x")] if place == at else []))
        second[MODES[place], "u"] = Body(Go(MODES[(place + 1) % other]), Say("y"))
    return first + second
