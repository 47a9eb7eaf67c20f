"""Values of any kind, objects of the package among them, for calls that are refused."""

from onestroke.boards import Board
from onestroke.bodies import Body, Go, Press, Say, Times
from onestroke.books import Book, Chain
from onestroke.desks import Desk
from onestroke.errors import NotBeginning
from onestroke.rows import Row
from onestroke.sites import Site
from onestroke.smallest import smallest
from onestroke.strokes import Ends, Never
import plain

OBJECTS = (
    Row(), Row("a"), Row("a", "b") * 10 ** 30, Body(), Body(Say("a")), Say("a"), Press("a"), Go("a"), Times(1), Book("a"),
    Chain(Book("a"), Book("b")), Ends(Row("a"), "a"), Never(Row(), Row("a")), NotBeginning(),
    smallest(Book("a", ["a"])), Board(Book("a")), Site(Book("a")), Site(Book("a")).trial(), Desk(Site(Book("a"))),
)

ANY = plain.ODD + OBJECTS

# No word is among them.
NO_WORDS = tuple(value for value in ANY if not (isinstance(value, str) and value == "a"))

NO_INTEGERS = (None, True, False, "", "a", "0", b"0", (), (0,), [], [0], {}, {0: 0}, int, object()) + OBJECTS


def refused(case, error, fields, action):
    """The action raises this very error, with these very values."""
    with case.assertRaises(error) as caught:
        action()
    case.assertIs(type(caught.exception), error)
    case.assertEqual(set(vars(caught.exception)), set(fields))
    for name, value in fields.items():
        found = getattr(caught.exception, name)
        if isinstance(value, (int, str, tuple)) and not isinstance(value, bool):
            case.assertIs(type(found), type(value))
            case.assertEqual(found, value)
        else:
            case.assertIs(found, value)
