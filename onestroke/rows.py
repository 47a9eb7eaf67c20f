"""Rows of words, kept folded."""

from onestroke.cutting import common_size, part_of, pieces_of, tail_stack, word_at
from onestroke.errors import InvalidWords, NotBeginning, OutOfRange, TooLong
from onestroke.folding import joined, repeated, tables_of_words
from onestroke.limits import SIZE
from onestroke.spelling import spelled_tables
from onestroke.tables import listed_letters, sizes_of
from onestroke.values import are_words, is_whole, is_within


class Row:
    """A finite sequence of words."""

    def __init__(self, *words):
        if not are_words(words):
            raise InvalidWords(words)
        self._tables = tables_of_words(words)
        self._size = len(words)
        self._known_sizes = None

    @classmethod
    def of(cls, words):
        """The row of a list of words."""
        if not are_words(words):
            raise InvalidWords(words)
        return cls(*words)

    @property
    def size(self):
        """How many words the row has."""
        return self._size

    @property
    def words(self):
        """The ascending tuple of the different words."""
        return self._tables[0] if self._tables else ()

    @property
    def _sizes(self):
        """The sizes of the letters of the tables."""
        if self._known_sizes is None:
            self._known_sizes = sizes_of(self._tables)
        return self._known_sizes

    def __getitem__(self, index):
        if not is_within(index, 0, self._size - 1):
            raise OutOfRange(index)
        return word_at(self._tables, self._sizes, index)

    def __iter__(self):
        raise TypeError("a row is not iterated over, but its listed()")

    def __eq__(self, other):
        return isinstance(other, Row) and self._tables == other._tables

    def __add__(self, other):
        if not isinstance(other, Row):
            return NotImplemented
        size = self._size + other._size
        if size > SIZE:
            raise TooLong(SIZE)
        return row_with(joined(self._tables, other._tables), size)

    def __mul__(self, number):
        if not is_whole(number):
            return NotImplemented
        many = max(number, 0)
        size = self._size * many
        if size > SIZE:
            raise TooLong(SIZE)
        return row_with(repeated(self._tables, self._size, many), size)

    def __rmul__(self, number):
        return self * number

    def part(self, start, many):
        """The row of so many words from a place on."""
        if not is_within(start, 0, self._size):
            raise OutOfRange(start)
        if not is_within(many, 0, self._size - start):
            raise OutOfRange(many)
        if many == 0:
            return Row()
        return row_with(part_of(self._tables, self._sizes, start, many), many)

    def common(self, other):
        """The size of the longest common beginning of two rows."""
        if self._tables == other._tables:
            return self._size
        return common_size(self._tables, other._tables, self._sizes)

    def starts_with(self, other):
        """Whether the row starts with another row."""
        return other._size <= self._size and self.common(other) == other._size

    def without(self, beginning):
        """The row behind a beginning."""
        if not self.starts_with(beginning):
            raise NotBeginning()
        return self.part(beginning._size, self._size - beginning._size)

    def listed(self, start=0):
        """The words from a place on, one after the other."""
        if not is_within(start, 0, self._size):
            raise OutOfRange(start)
        stack = tail_stack(self._tables, self._sizes, start) if start < self._size else None
        todo = list(pieces_of(stack))
        while todo:
            level, number, times = todo.pop()
            letter = self._tables[level][number]
            if level == 0:
                for _ in range(times):
                    yield letter
            else:
                if times > 1:
                    todo.append((level, number, times - 1))
                todo.extend([(level - 1, inner, many) for inner, many in letter[::-1]])


def row_with(tables, size):
    """The row with these tables and this size."""
    row = Row()
    row._tables = tables
    row._size = size
    return row


def letters(row):
    """The list of the letters of a row."""
    return listed_letters(row._tables)


def is_letters(value):
    """Whether a value is the list of the letters of a row."""
    return spelled_tables(value) is not None


def row_of(letters):
    """The row with these letters."""
    tables = spelled_tables(letters)
    if tables is None:
        raise InvalidWords(letters)
    size = sizes_of(tables)[-1][0] if tables else 0
    return row_with(tables, size)


def together(one, other):
    """The row of two rows, one behind the other, of any size."""
    return row_with(joined(one._tables, other._tables), one._size + other._size)


def row_of_words(words):
    """The row of a list of words, of any length."""
    return row_with(tables_of_words(words), len(words))


def mark_of(row):
    """A value that is the same for equal rows and may be a key of a dict."""
    return row._tables


def row_of_all(rows):
    """The row of all rows of a list, one behind the other, of any size. Neighbours are put together first."""
    while len(rows) > 1:
        pairs = [together(one, other) for one, other in zip(rows[::2], rows[1::2])]
        rows = pairs + rows[len(pairs) * 2:]
    return rows[0] if rows else Row()
