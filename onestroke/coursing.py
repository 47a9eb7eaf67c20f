"""Courses: what a pressed row does from a state on, told by the letters of the row.

The states that the words of the row may reach are numbered. Each letter leads
from each of them to another one, or to nowhere, behind a stroke that never
ends. So it is known for all letters where they end before it is asked what
they say, and that is asked only of those that come. A unit is a letter that is
done from a state on, told by one number. Parts are told as in walking.
"""

from onestroke.rows import letters
from onestroke.walking import singles, turned_parts


class Course:
    """A row that is pressed from a state on."""

    def __init__(self, row, chart, start):
        self.nodes = letters(row)
        self.chart = chart
        self.states = reached_states(chart, start, [entry for entry in self.nodes if isinstance(entry, str)])
        # The last number stands for nowhere.
        self.numbers = {state: number for number, state in enumerate(self.states + [None])}
        self.width = len(self.numbers)
        # For each letter the list of the numbers to which it leads.
        self.leads = []
        for entry in self.nodes:
            self.leads.append(self.leads_of_word(entry) if isinstance(entry, str) else self.leads_of_pairs(entry))
        self.parts = {}

    def leads_of_word(self, word):
        """The numbers to which the stroke of a word leads."""
        return [self.numbers[self.chart.after(state, word)] for state in self.states] + [len(self.states)]

    def leads_of_pairs(self, pairs):
        """The numbers to which pairs of letters lead."""
        found = list(range(self.width))
        for index, times in pairs:
            found = after_both(found, many_times(self.leads[index], times))
        return found

    def entry_done(self, unit):
        """The letter of a unit."""
        return self.nodes[unit // self.width]

    def number_behind(self, unit):
        """The number of the state behind a unit."""
        index, number = divmod(unit, self.width)
        return self.leads[index][number]

    def parts_of_unit(self, unit):
        """The parts of a unit that is no word."""
        if unit not in self.parts:
            found = []
            number = unit % self.width
            for index, times in self.entry_done(unit):
                if times == 1:
                    found.append(((index * self.width + number,), 1))
                    number = self.leads[index][number]
                else:
                    more, number = self.repeated_unit(index, number, times)
                    found.extend(more)
            self.parts[unit] = found
        return self.parts[unit]

    def repeated_unit(self, index, number, times):
        """The parts of a letter that is done so many times from a number on, and the number behind it."""
        done = []
        while len(done) < times:
            unit = index * self.width + number
            if unit in done:
                at = done.index(unit)
                parts = turned_parts(done, at, times)
                return parts, done[at + (times - at) % (len(done) - at)] % self.width
            done.append(unit)
            number = self.leads[index][number]
        return singles(done), number

    def whole(self):
        """The parts of the whole row."""
        return singles([(len(self.nodes) - 1) * self.width]) if self.nodes else []

    def end(self):
        """The state behind the row; None if a stroke never ends."""
        if not self.nodes:
            return self.states[0]
        number = self.leads[-1][0]
        return self.states[number] if number < len(self.states) else None

    def fall(self, kept):
        """The parts ahead of the first stroke that does not lead to a state that is kept, and its word and state."""
        before = []
        unit = (len(self.nodes) - 1) * self.width
        while not isinstance(self.entry_done(unit), str):
            for units, times in self.parts_of_unit(unit):
                falling = [inner for inner in units if not self.leads_to(inner, kept)]
                if falling:
                    before.extend(singles(units[:units.index(falling[0])]))
                    unit = falling[0]
                    break
                before.append((units, times))
        return before, self.entry_done(unit), self.states[unit % self.width]

    def leads_to(self, unit, kept):
        """Whether a unit leads to a state that is kept."""
        number = self.number_behind(unit)
        return number < len(self.states) and self.states[number] in kept

    def needed(self, parts):
        """All units that parts are made of, each behind those that it is made of."""
        found = {}
        todo = [unit for units, _ in parts for unit in units]
        while todo:
            unit = todo.pop()
            if unit not in found:
                found[unit] = True
                if not isinstance(self.entry_done(unit), str):
                    for units, _ in self.parts_of_unit(unit):
                        todo.extend(list(units))
        return sorted(list(found))

    def said(self, parts):
        """The index of what parts say that end."""
        indexes = {}
        for unit in self.needed(parts):
            entry = self.entry_done(unit)
            if isinstance(entry, str):
                indexes[unit] = self.chart.stroke_from(self.states[unit % self.width], entry)[0]
            else:
                indexes[unit] = self.summed(indexes, self.parts[unit])
        return self.summed(indexes, parts)

    def summed(self, indexes, parts):
        """The index of what parts say whose units have these indexes."""
        script = self.chart.script
        pairs = []
        for units, times in parts:
            index = indexes[units[0]] if len(units) == 1 else script.summed([(indexes[unit], 1) for unit in units])
            pairs.append((index, times))
        return script.summed(pairs)


def reached_states(chart, start, words):
    """The list of the states that words may reach from a state on, itself ahead of the others."""
    found = {start: True}
    todo = [start]
    while todo:
        state = todo.pop()
        for word in words:
            after = chart.after(state, word)
            if after is not None and after not in found:
                found[after] = True
                todo.append(after)
    return list(found)


def after_both(one, other):
    """Where numbers lead, first by the one list, then by the other one."""
    return [other[number] for number in one]


def many_times(leads, times):
    """Where numbers lead by a list that is used so many times."""
    found = list(range(len(leads)))
    power = leads
    while times > 0:
        if times & 1:
            found = after_both(found, power)
        times = times >> 1
        if times > 0:
            power = after_both(power, power)
    return found
