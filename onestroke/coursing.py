"""Courses: what pressed rows do, told by the letters of the row."""

from onestroke.rows import letters
from onestroke.walking import Walk, singles


class Course(Walk):
    """A walk through the letters of a pressed row. The states are those of a system, None behind an endless stroke."""

    def __init__(self, row, chart):
        Walk.__init__(self, letters(row))
        self.chart = chart
        self.indexes = {}
        # So many of the units that were done are written.
        self.many = 0

    def entered(self, index, state):
        """The unit of an entry. The leaves are keys."""
        unit = (index, state)
        if unit in self.ends:
            return unit
        if state is None:
            self.ends[unit] = None
        elif isinstance(self.nodes[index], str):
            told = self.chart.stroke_from(state, self.nodes[index])
            self.ends[unit] = None if told is None else told[1]
            if told is not None:
                self.indexes[unit] = told[0]
        return unit

    def whole(self, state):
        """The parts of the row from a state on."""
        if len(self.nodes) == 0:
            return []
        unit = self.entered(len(self.nodes) - 1, state)
        self.finish(unit)
        return singles([unit])

    def end(self, state):
        """The state behind the row from a state on; None if a stroke never ends."""
        for units, _ in self.whole(state):
            state = self.ends[units[0]]
        return state

    def fall(self, state, kept):
        """The parts of the row ahead of the first stroke that does not lead to a state that is kept, and its unit."""
        before = []
        unit = self.whole(state)[0][0][0]
        while unit in self.parts:
            for units, times in self.parts[unit]:
                falling = [inner for inner in units if self.ends[inner] not in kept]
                if falling:
                    before.extend(singles(units[:units.index(falling[0])]))
                    unit = falling[0]
                    break
                before.append((units, times))
        return before, unit

    def said(self, parts):
        """The index of what parts say that end."""
        script = self.chart.script
        for unit in self.finished[self.many:]:
            if self.ends[unit] is not None:
                self.indexes[unit] = self.summed(script, self.parts[unit])
        self.many = len(self.finished)
        return self.summed(script, parts)

    def summed(self, script, parts):
        """The same where all that is within the parts is written."""
        pairs = []
        for units, times in parts:
            pairs.append((script.summed([(self.indexes[unit], 1) for unit in units]), times))
        return script.summed(pairs)
