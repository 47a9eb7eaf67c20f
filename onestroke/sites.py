"""Sites: books that are edited live, with guards that hold at all times."""

from onestroke.books import Book
from onestroke.charts import chart_of
from onestroke.comparing import parted
from onestroke.errors import Endless, InTrial, NotABook, OutOfRange, TooBig, Unlike
from onestroke.pressing import endless_row, run
from onestroke.systems import kept
from onestroke.trials import History, Trial
from onestroke.values import is_within


class Guards:
    """What holds of the book of a site; None stands for no such guard."""

    def __init__(self, ending, like, most):
        self.ending = ending
        self.like = None if like is None else kept(like)
        self.most_commands = most

    def check(self, book):
        """The errors of a book of which it does not hold."""
        pressed = endless_row(book) if self.ending else None
        if pressed is not None:
            raise Endless(pressed)
        pressed = None if self.like is None else parted(book, self.like)
        if pressed is not None:
            raise Unlike(pressed)
        pair = None if self.most_commands is None else first_big(book, self.most_commands)
        if pair is not None:
            raise TooBig(pair[0], pair[1])


def first_big(book, most):
    """The first pair (mode, key) whose stroke ends with more than so many commands; None if there is none."""
    chart = chart_of(book)
    for mode, key in book.strokes:
        told = chart.stroke_from(mode, key)
        if told is not None and chart.size_at(told[0]) > most:
            return mode, key
    return None


class Site:
    """A book that is edited. Each edit makes another book, so those before stay as they are."""

    def __init__(self, book, *, ending=False, like=None, most=None):
        if not isinstance(book, Book):
            raise NotABook(0)
        self._guards = Guards(ending, like, most)
        self._history = History(book.copied())
        self._guards.check(book)

    @property
    def book(self):
        """A copy of the book."""
        return self._history.now.copied()

    @property
    def first(self):
        """The first mode."""
        return self._history.now.first

    @property
    def rest(self):
        """The ascending tuple of the rest modes."""
        return self._history.now.rest

    @property
    def strokes(self):
        """The ascending tuple of the pairs with a body."""
        return self._history.now.strokes

    @property
    def undoable(self):
        """How many edits can be undone."""
        return len(self._history.undos)

    @property
    def redoable(self):
        """How many edits can be redone."""
        return len(self._history.redos)

    @property
    def depth(self):
        """How many blocks are in progress."""
        return self._history.level

    def text(self):
        """How the book is written."""
        book = self._history.now
        return book.text()

    def __len__(self):
        return len(self._history.now)

    def __contains__(self, pair):
        return pair in self._history.now

    def __getitem__(self, pair):
        return self._history.now[pair]

    def __iter__(self):
        raise TypeError("a site is not iterated over, but its strokes")

    def __call__(self, pressed):
        return run(self._history.now, pressed)

    def __setitem__(self, pair, body):
        changed = self._history.now.copied()
        changed[pair] = body
        self._edit(changed)

    def __ior__(self, bodies):
        changed = self._history.now.copied()
        changed |= bodies
        self._edit(changed)
        return self

    def take(self, mode, key):
        """Removes the body of a key in a mode."""
        book = self._history.now.copied()
        book.take(mode, key)
        self._edit(book)

    def set_first(self, mode):
        """Gives the book another first mode."""
        book = self._history.now.copied()
        book.set_first(mode)
        self._edit(book)

    def set_rest(self, modes):
        """Gives the book other rest modes."""
        book = self._history.now.copied()
        book.set_rest(modes)
        self._edit(book)

    def _edit(self, changed):
        """Makes a changed book the present one, if the guards allow it."""
        self._guards.check(changed)
        self._history.edit(changed)

    def _check_count(self, count, most):
        """The errors of a number of edits to undo or redo."""
        if self._history.level > 0:
            raise InTrial()
        if not is_within(count, 1, most):
            raise OutOfRange(count)

    def undo(self, count=1):
        """Undoes edits."""
        self._check_count(count, len(self._history.undos))
        self._history.step_back(count)

    def redo(self, count=1):
        """Redoes edits."""
        self._check_count(count, len(self._history.redos))
        self._history.step_forth(count)

    def trial(self):
        """An object for one block, at whose end the site is as at its beginning, unless it is kept."""
        return Trial(self, self._history)

    def attempt(self, action):
        """What an action returns that is called with the site, in a block that is kept."""
        trial = self.trial()
        with trial as site:
            result = action(site)
            trial.keep()
        return result

    def tried(self, action):
        """What an action returns that is called with the site, in a block that is not kept."""
        with self.trial() as site:
            result = action(site)
        return result


class LoggedSite(Site):
    """A site with a log of what was done without an error."""

    @property
    def log(self):
        """The tuple of what was done, in order."""
        return tuple(self._history.marks)
