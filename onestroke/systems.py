"""Systems: books and chains, and their states."""

from onestroke.books import Book, books_of
from onestroke.errors import UnknownState


def modes_in(system, state):
    """The tuple of the modes of a state."""
    return (state,) if isinstance(system, Book) else state


def state_with(system, modes):
    """The state with these modes."""
    return modes[0] if isinstance(system, Book) else tuple(modes)


def first_of(system):
    """The first state."""
    return state_with(system, [book.first for book in books_of(system)])


def states_of(system):
    """The list of all states, ascending."""
    modes = [book.modes for book in books_of(system)]
    return [state_with(system, chosen) for chosen in product_of(modes)]


def product_of(lists):
    """The list of all tuples of one value of each list."""
    found = [()]
    for values in lists:
        found = [(*ahead, value) for ahead in found for value in values]
    return found


def is_state(system, state):
    """Whether any value is a state of the system."""
    if isinstance(system, Book):
        return state in system.modes
    books = books_of(system)
    if not isinstance(state, tuple) or len(state) != len(books):
        return False
    return all([mode in book.modes for book, mode in zip(books, state)])


def check_state(system, state):
    """The error of a value that is not a state of the system."""
    if not is_state(system, state):
        raise UnknownState(state)


def is_at_rest(system, state):
    """Whether a state is at rest."""
    return all([mode in book.rest for book, mode in zip(books_of(system), modes_in(system, state))])


def kept(system):
    """A copy of a system. Chains never change, so they need none."""
    return system.copied() if isinstance(system, Book) else system
