"""Books, in which keys stand for bodies, and chains of books."""

from onestroke.bodies import Body, Go, Times
from onestroke.errors import (
    Clash, InvalidBodies, InvalidItem, InvalidMode, InvalidStroke, InvalidText, NotABody, NotABook, TooDeep, TooFew,
    TooMany, UnknownStroke)
from onestroke.limits import BOOKS, KEYS, MODES, STATES
from onestroke.values import are_all_words, is_pair_of_words, is_word

# A chain has at least so many books.
LEAST = 2
# So many lines of the text of a book stand ahead of those of its bodies.
LINES = 2


class Book:
    """A first mode, rest modes, and a body for some pairs (mode, key)."""

    def __init__(self, first, rest=(), bodies=None):
        check_mode(first)
        check_modes(rest)
        if bodies is not None:
            check_bodies(bodies)
        told = {} if bodies is None else with_bodies({}, bodies)
        check_limits(first, rest, told)
        self._first = first
        self._rest = ascending(rest)
        self._bodies = told

    @classmethod
    def read(cls, text):
        """The book with this text."""
        first, rest, bodies = read_lines(text)
        return cls(first, rest, bodies)

    @property
    def first(self):
        """The first mode."""
        return self._first

    @property
    def rest(self):
        """The ascending tuple of the rest modes."""
        return self._rest

    @property
    def modes(self):
        """The ascending tuple of all modes."""
        return modes_of(self._first, self._rest, self._bodies)

    @property
    def bound(self):
        """The ascending tuple of the keys."""
        return keys_of(self._bodies)

    @property
    def strokes(self):
        """The ascending tuple of the pairs with a body."""
        return tuple(sorted(list(self._bodies)))

    def __getitem__(self, pair):
        if pair not in self:
            raise UnknownStroke(pair)
        return self._bodies[pair]

    def __setitem__(self, pair, body):
        if not is_pair_of_words(pair):
            raise InvalidStroke(pair)
        if not isinstance(body, Body):
            raise NotABody(body)
        self._bodies = self._changed({pair: body})

    def __contains__(self, pair):
        return is_pair_of_words(pair) and pair in self._bodies

    def __len__(self):
        return len(self._bodies)

    def __iter__(self):
        raise TypeError("a book is not iterated over, but its strokes")

    def __eq__(self, other):
        return isinstance(other, Book) and told_by(self) == told_by(other)

    def __or__(self, other):
        if not isinstance(other, Book):
            return NotImplemented
        for pair in self.strokes:
            if pair in other and self[pair] != other[pair]:
                raise Clash(pair[0], pair[1])
        return Book(self._first, self._rest + other._rest, with_bodies(self._bodies, other._bodies))

    def __ior__(self, bodies):
        check_bodies(bodies)
        self._bodies = self._changed(bodies)
        return self

    def __add__(self, other):
        if not isinstance(other, (Book, Chain)):
            return NotImplemented
        return joined_books(self, other)

    def _changed(self, bodies):
        """All bodies, with others for some pairs."""
        told = with_bodies(self._bodies, bodies)
        check_limits(self._first, self._rest, told)
        return told

    def take(self, mode, key):
        """Removes the body of a key in a mode."""
        if (mode, key) not in self:
            raise UnknownStroke((mode, key))
        self._bodies = {pair: self._bodies[pair] for pair in self._bodies if pair != (mode, key)}

    def set_first(self, mode):
        """Gives the book another first mode."""
        check_mode(mode)
        check_limits(mode, self._rest, self._bodies)
        self._first = mode

    def set_rest(self, modes):
        """Gives the book other rest modes."""
        check_modes(modes)
        check_limits(self._first, modes, self._bodies)
        self._rest = ascending(modes)

    def copied(self):
        """An equal new book."""
        return Book(self._first, self._rest, self._bodies)

    def text(self):
        """How the book is written."""
        lines = [f"first {self._first}", " ".join(["rest"] + list(self._rest))]
        return "\n".join(lines + [line_of(pair, self._bodies[pair]) for pair in self.strokes])


class Chain:
    """Two or three books: the commands of each one are pressed in the next one."""

    def __init__(self, *books):
        for index, book in enumerate(books):
            if not isinstance(book, Book):
                raise NotABook(index)
        if len(books) > BOOKS:
            raise TooMany(BOOKS)
        if len(books) < LEAST:
            raise TooFew(LEAST)
        many = 1
        for book in books:
            many = many * len(book.modes)
        if many > STATES:
            raise TooMany(STATES)
        self._books = [book.copied() for book in books]

    @classmethod
    def of(cls, books):
        """The chain of a list of books."""
        return cls(*books)

    @property
    def books(self):
        """A new list of copies of the books."""
        return [book.copied() for book in self._books]

    @property
    def bound(self):
        """The ascending tuple of the keys of the first book."""
        return self._books[0].bound

    def __add__(self, other):
        if not isinstance(other, (Book, Chain)):
            return NotImplemented
        return joined_books(self, other)

    def __eq__(self, other):
        return isinstance(other, Chain) and self._books == other._books


def books_of(system):
    """The books of a book or a chain themselves, which are only read."""
    if isinstance(system, Book):
        return [system]
    return system._books


def joined_books(one, other):
    """The chain of all books of two systems."""
    books = books_of(one) + books_of(other)
    return Chain(*books)


def told_by(book):
    """All that makes books equal."""
    return (book._first, book._rest, book._bodies)


def ascending(words):
    """The ascending tuple of the different words of a list."""
    return tuple(sorted(set(words)))


def goes_of(body):
    """The modes of the Go items of a body, also within Times."""
    found = []
    todo = list(body.entries)
    while todo:
        item = todo.pop()
        if isinstance(item, Go):
            found.append(item.mode)
        elif isinstance(item, Times):
            todo.extend(list(item.body.entries))
    return found


def modes_of(first, rest, bodies):
    """The ascending tuple of the modes of a book."""
    found = [mode for mode, _ in bodies]
    found.append(first)
    found.extend(list(rest))
    for pair in bodies:
        found.extend(goes_of(bodies[pair]))
    return ascending(found)


def keys_of(bodies):
    """The ascending tuple of the keys of pairs with a body."""
    return ascending([key for _, key in bodies])


def check_mode(mode):
    """The error of a mode that is none."""
    if not is_word(mode):
        raise InvalidMode(mode)


def check_modes(modes):
    """The error of a list of modes that is none."""
    if not are_all_words(modes):
        raise InvalidMode(modes)


def check_bodies(bodies):
    """The error of a dict from pairs of a mode and a key to bodies that is none."""
    if not isinstance(bodies, dict):
        raise InvalidBodies(bodies)
    for pair in bodies:
        if not is_pair_of_words(pair) or not isinstance(bodies[pair], Body):
            raise InvalidBodies(bodies)


def excess(first, rest, bodies):
    """The limit of which a book has more; None if there is none."""
    if len(modes_of(first, rest, bodies)) > MODES:
        return MODES
    if len(keys_of(bodies)) > KEYS:
        return KEYS
    return None


def check_limits(first, rest, bodies):
    """The error of too many modes or keys."""
    limit = excess(first, rest, bodies)
    if limit is not None:
        raise TooMany(limit)


def with_bodies(bodies, others):
    """A new dict of bodies, with others for some pairs."""
    told = {pair: bodies[pair] for pair in bodies}
    for pair in others:
        told[pair] = others[pair]
    return told


def line_of(pair, body):
    """The line of a pair in the text of a book."""
    mode, key = pair
    return f"{mode} {key}: {body.text()}" if len(body) > 0 else f"{mode} {key}:"


def words_behind(name, line):
    """The list of the words of a line behind its name; None if the line is not written so."""
    words = line.split(" ")
    if words[0] != name or not are_all_words(words[1:]):
        return None
    return words[1:]


def body_of(text):
    """The body with this text; None if there is none."""
    try:
        return Body.read(text)
    except (InvalidText, InvalidItem, TooMany, TooDeep):
        return None


def stroke_of(line):
    """The pair and the body of a line; None for one that is not there."""
    head, colon, tail = line.partition(":")
    pair = tuple(head.split(" "))
    if colon == "" or not is_pair_of_words(pair):
        return None, None
    if tail == "":
        return pair, Body()
    if tail[0] != " " or tail == " ":
        return pair, None
    return pair, body_of(tail[1:])


def read_lines(text):
    """The first mode, the rest modes and the bodies of the book with this text."""
    if not isinstance(text, str):
        raise InvalidText(0)
    lines = text.split("\n")
    first = words_behind("first", lines[0])
    if first is None or len(first) != 1:
        raise InvalidText(0)
    # All lines can stand, but the text of a book has one more.
    if len(lines) == 1:
        raise InvalidText(1)
    rest = words_behind("rest", lines[1])
    if rest is None or tuple(rest) != ascending(rest) or excess(first[0], rest, {}) is not None:
        raise InvalidText(1)
    bodies = {}
    last = ()
    for index, line in enumerate(lines[LINES:], start=LINES):
        pair, body = stroke_of(line)
        if body is None or pair <= last:
            raise InvalidText(index)
        bodies[pair] = body
        if excess(first[0], rest, bodies) is not None:
            raise InvalidText(index)
        last = pair
    return first[0], rest, bodies
