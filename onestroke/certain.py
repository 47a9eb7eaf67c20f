"""Certain rows: the commands with which all that counts begins."""

from onestroke.beginnings import beginnings_of
from onestroke.charts import chart_of
from onestroke.coursing import Course
from onestroke.machines import alive_in, machine_of
from onestroke.rows import Row, row_of_words
from onestroke.strands import common_in, joined_strands, size_of, strand_of_row
from onestroke.systems import is_at_rest
from onestroke.values import are_all_words


def alive(system):
    """The list of all alive states, ascending."""
    return alive_in(system)


def certain(system):
    """A dict from the alive states, ascending, to their certain rows."""
    beginnings = beginnings_of(chart_of(system))
    return {state: beginnings.row_from(state) for state in beginnings.states}


def certificate(system):
    """A certificate: a dict from the alive states to their certain rows, and two lists of keys that count."""
    beginnings = beginnings_of(chart_of(system))
    return {state: (beginnings.row_from(state), *beginnings.ways(state)) for state in beginnings.states}


def is_entry(value):
    """Whether a value is a tuple of a row and two lists of words."""
    if not isinstance(value, tuple) or len(value) != 3:
        return False
    row, one, other = value
    if not isinstance(row, Row) or not isinstance(one, list) or not isinstance(other, list):
        return False
    return are_all_words(one) and are_all_words(other)


def is_certificate(system, value):
    """Whether any value is a certificate."""
    if not isinstance(value, dict) or not all([is_entry(value[state]) for state in value]):
        return False
    chart = chart_of(system)
    machine = machine_of(chart)
    if len(value) != len(machine.nearest) or not all([state in value for state in machine.nearest]):
        return False
    rows = {state: strand_of_row(chart.loom, value[state][0]) for state in value}
    if any([size_of(rows[state]) > 0 for state in machine.resting]):
        return False
    if not begin_so(chart, machine, rows):
        return False
    return all([is_shown(chart, state, rows[state], value[state]) for state in value])


def begin_so(chart, machine, rows):
    """Whether what each move says, and the row behind it, begins with the row ahead of it."""
    for state, key in machine.moves:
        said, after = machine.moves[(state, key)]
        behind = joined_strands(chart.loom, said, rows[after])
        if common_in(chart.loom, behind, rows[state]) < size_of(rows[state]):
            return False
    return True


def is_shown(chart, state, row, entry):
    """Whether both lists of an entry count from its state, and have exactly the row in common at the beginning."""
    ends = []
    for words in entry[1:]:
        course = Course(row_of_words(words), chart, state)
        end = course.end()
        if end is None or not is_at_rest(chart.system, end):
            return False
        ends.append(chart.weaver.thread_at(course.said(course.whole())))
    many = common_in(chart.loom, ends[0], ends[1])
    return many == size_of(row) and common_in(chart.loom, ends[0], row) == many
