"""Pressed rows: which of them end and count, and what their commands are."""

from onestroke.charts import chart_of
from onestroke.coursing import Course
from onestroke.errors import InvalidPressed, TooLong
from onestroke.limits import SIZE
from onestroke.playing import Stream
from onestroke.rows import Row
from onestroke.strokes import Ends, Never, outcome_of
from onestroke.systems import check_state, first_of, is_at_rest, states_of
from onestroke.values import are_words

# 10 ** 1000: the most commands ahead of a stroke that never ends.
AHEAD = (10 ** 50) ** 20


def first_state(system):
    """The first state."""
    return first_of(system)


def states(system):
    """The list of all states, ascending."""
    return states_of(system)


def is_rest(system, state):
    """Whether a state is a rest."""
    check_state(system, state)
    return is_at_rest(system, state)


def row_pressed(pressed):
    """The row of a pressed row; the error of a value that is none."""
    if isinstance(pressed, Row):
        return pressed
    if not are_words(pressed):
        raise InvalidPressed(pressed)
    return Row.of(pressed)


def run(system, pressed, state=None):
    """The outcome of a pressed row, from the first state or another one."""
    row = row_pressed(pressed)
    if state is not None:
        check_state(system, state)
    chart = chart_of(system)
    course = Course(row, chart, first_of(system) if state is None else state)
    end = course.end()
    if end is None:
        return endless_run(course)
    index = course.said(course.whole())
    if chart.size_at(index) > SIZE:
        raise TooLong(SIZE)
    return Ends(chart.row_told(index), end)


def endless_run(course):
    """The outcome of a pressed row with a stroke that never ends."""
    chart = course.chart
    parts, key, state = course.fall({state: True for state in states_of(chart.system)})
    index = course.said(parts)
    if chart.size_at(index) > AHEAD:
        raise TooLong(SIZE)
    never = outcome_of(chart.system, state, Stream([key], 0, None))
    return Never(chart.row_told(index) + never.front, never.ring)


def counts(system, pressed):
    """Whether a pressed row counts."""
    end = Course(row_pressed(pressed), chart_of(system), first_of(system)).end()
    return end is not None and is_at_rest(system, end)


def search(system, chart, is_found):
    """A shortest list of keys from the first state on to a state and a key, or None at its end, that are looked for.

    None if there is none.
    """
    ways = {first_of(system): []}
    todo = list(ways)
    while todo:
        reached = []
        for state in todo:
            if is_found(state, None):
                return ways[state]
            for key in system.bound:
                if is_found(state, key):
                    return ways[state] + [key]
                after = chart.after(state, key)
                if after is not None and after not in ways:
                    ways[after] = ways[state] + [key]
                    reached.append(after)
        todo = reached
    return None


def endless_row(system):
    """A shortest list of keys that never ends; None if there is none."""
    chart = chart_of(system)
    return search(system, chart, lambda state, key: key is not None and chart.after(state, key) is None)


def row_to(system, state):
    """A shortest list of keys that ends at a state; None if there is none."""
    check_state(system, state)
    return search(system, chart_of(system), lambda reached, key: key is None and reached == state)
