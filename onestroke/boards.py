"""Boards: keys are pressed live, and each command is handed over as soon as it is certain."""

from onestroke.beginnings import beginnings_of
from onestroke.charts import chart_of
from onestroke.coursing import Course
from onestroke.errors import InvalidWords, NeverEnds, TooLong
from onestroke.limits import SIZE
from onestroke.rows import Row, row_of_words
from onestroke.strands import joined_strands, row_of_strand, size_of, strand_behind
from onestroke.systems import first_of, kept, states_of
from onestroke.values import are_all_words


class Board:
    """A system whose keys are pressed."""

    def __init__(self, system):
        self._system = kept(system)
        self._chart = chart_of(self._system)
        beginnings = beginnings_of(self._chart)
        # The strands of the certain rows of the alive states.
        self._certain = {state: beginnings.strand_from(state) for state in beginnings.states}
        self._state = first_of(self._system)
        self._many = 0
        self._ahead = self._row_ahead()
        self._handed = self._ahead

    @property
    def state(self):
        """The state that is reached."""
        return self._state

    @property
    def handed(self):
        """The row of all that was handed over."""
        return self._handed

    @property
    def ahead(self):
        """The row of the commands that were handed over although their strokes are still to come."""
        return self._ahead

    @property
    def is_alive(self):
        """Whether the state is alive."""
        return self._state in self._certain

    def press(self, *keys):
        """Presses keys. Returns the row of what is handed over."""
        if not are_all_words(keys):
            raise InvalidWords(keys)
        course = Course(row_of_words(keys), self._chart, self._state)
        if course.end() is None:
            raise NeverEnds(course.fall({state: True for state in states_of(self._system)})[1])
        return self._go(course, len(keys))

    def press_row(self, row):
        """Presses the words of a row. Returns the row of what is handed over."""
        course = Course(row, self._chart, self._state)
        if course.end() is None:
            raise NeverEnds(row)
        return self._go(course, row.size)

    def _row_ahead(self):
        """The certain row of the state; nothing in a state that is not alive."""
        return row_of_strand(self._chart.loom, self._certain.get(self._state))

    def _go(self, course, many):
        """Does the strokes of a course of so many keys, which end. Returns the row of what is handed over."""
        index, last = self._alive_part(course)
        before = size_of(self._certain.get(self._state))
        more = self._chart.size_at(index) + size_of(self._certain.get(last)) - before
        if self._handed.size + more > SIZE or self._many + many > SIZE:
            raise TooLong(SIZE)
        loom = self._chart.loom
        strand = joined_strands(loom, self._chart.weaver.thread_at(index), self._certain.get(last))
        new = row_of_strand(loom, strand_behind(loom, strand, more))
        self._state = course.end()
        self._many = self._many + many
        self._handed = self._handed + new
        self._ahead = self._row_ahead()
        return new

    def _alive_part(self, course):
        """The index of what a course says as long as it goes through alive states, and the last one of them."""
        if self._state not in self._certain:
            return course.said([]), self._state
        end = course.end()
        if end in self._certain:
            return course.said(course.whole()), end
        parts, _, last = course.fall(self._certain)
        return course.said(parts), last


class NotedBoard(Board):
    """A board that notes which keys were pressed."""

    def __init__(self, system):
        Board.__init__(self, system)
        self._noted = Row()

    @property
    def noted(self):
        """The row of all pressed keys."""
        return self._noted

    def press(self, *keys):
        """Presses keys. Returns the row of what is handed over."""
        new = super().press(*keys)
        self._noted = self._noted + row_of_words(keys)
        return new

    def press_row(self, row):
        """Presses the words of a row. Returns the row of what is handed over."""
        new = super().press_row(row)
        self._noted = self._noted + row
        return new
