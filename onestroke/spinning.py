"""Spinning: the tables of the rows for which entries stand, all of them folded together, level by level.

At each level a line stands for each entry: stretches of letters, and a core
between each two. A core (seam, number, times) stands for the line of an entry,
done so many times, with the letters of the seam between each two of them. If
the number is None, it stands for the letters of the seam, so many times. There
is a cut on both sides of a core, whatever stands around it.

The letters at the ends of a line may be cut in other ways where the entry
occurs, so they move into the lines in which it occurs. All others become
letters of the next level. A line that has no others moves as a whole.
"""

from onestroke.folding import parts_of, runs_of
from onestroke.rows import Row, row_with
from onestroke.scripts import EMPTY
from onestroke.tables import cleaned, sizes_of

# So many turns of a wheel are not written one by one.
TURNS = 6


class Line:
    """What stands for an entry at a level."""

    def __init__(self, stretches, cores):
        self.stretches = stretches
        self.cores = cores

    def put(self, letters):
        """Puts letters behind the line."""
        self.stretches[-1].extend(letters)

    def put_core(self, core):
        """Puts a core behind the line."""
        self.cores.append(core)
        self.stretches.append([])

    def put_wheel(self, wheel, times, behind):
        """Puts letters behind the line, so many times, and letters behind them, with which the next turn may begin."""
        wheel = runs_of(wheel)
        if len(wheel) == 1:
            behind = [(wheel[0][0], wheel[0][1] * times)] + behind
            times = 0
        elif wheel[0][0] == wheel[-1][0] and times > 0:
            # The last run of a turn and the first one of the next turn are one run.
            self.put(wheel[:1])
            behind = wheel[1:] + behind
            wheel = wheel[1:-1] + [(wheel[0][0], wheel[-1][1] + wheel[0][1])]
            times = times - 1
        if times < TURNS:
            self.put(wheel * times + behind)
            return
        at = lowest(wheel)
        # The cuts of the second turn and of the last but one have their neighbours within the wheel.
        self.put(wheel + wheel[:at])
        self.put_core((wheel[at:] + wheel[:at], None, times - 3))
        self.put(wheel[at:] + wheel + behind)

    def put_opened(self, core, opened):
        """Puts a core behind the line, with the ends of its entry as letters."""
        seam, number, times = core
        if number is None:
            self.put_wheel(seam, times, [])
            return
        before, behind = opened[number]
        if behind is None:
            self.put_wheel(before + seam, times - 1, before)
            return
        self.put(before)
        self.put_core((runs_of(behind + seam + before) if times > 1 else [], number, times))
        self.put(behind)


def lowest(wheel):
    """The place of the least letter."""
    letters = [letter for letter, _ in wheel]
    return letters.index(min(letters))


def first_line(pairs, nodes, place):
    """The line of pairs of entries at level 0."""
    line = Line([[]], [])
    for index, times in pairs:
        if isinstance(nodes[index], str):
            line.put([(place[nodes[index]], times)])
        else:
            line.put_core(([], index, times))
    return line


def opened_line(line, opened):
    """The same line with the letters that move into it."""
    stretches, cores = list(line.stretches), list(line.cores)
    result = Line([[]], [])
    for stretch, core in zip(stretches, cores):
        result.put(stretch)
        result.put_opened(core, opened)
    result.put(stretches[-1])
    return Line([runs_of(stretch) for stretch in result.stretches], result.cores)


def is_letter(line):
    """Whether a line is one letter."""
    return not line.cores and len(line.stretches[0]) == 1 and line.stretches[0][0][1] == 1


def cut_line(line):
    """The same line with the parts of its letters."""
    cores = [(parts_of(seam) if seam else [], number, times) for seam, number, times in line.cores]
    return Line([parts_of(stretch) for stretch in line.stretches], cores)


def ends_of(line, parts):
    """The letters at both ends of a line, taken out of its parts; if there are no others, all its letters and None."""
    if not line.cores and len(parts.stretches[0]) < 3:
        return line.stretches[0], None
    return list(parts.stretches[0].pop(0)), list(parts.stretches[-1].pop())


def ranked(line, place):
    """The line with parts made letters of the next level."""
    cores = [([(place[part], 1) for part in seam], number, times) for seam, number, times in line.cores]
    return Line([[(place[part], 1) for part in stretch] for stretch in line.stretches], cores)


class Spindle:
    """The lines of all entries at a level, and the tables up to it. Wanted entries have lines of their own."""

    def __init__(self, nodes, wanted):
        words = sorted(set([entry for entry in nodes if isinstance(entry, str)]))
        place = {word: at for at, word in enumerate(words)}
        self.tables = [tuple(words)]
        self.many = len(nodes)
        self.lines = {}
        for index in needed_nodes(nodes, wanted):
            if not isinstance(nodes[index], str):
                self.lines[index] = first_line(nodes[index], nodes, place)
        for at, index in enumerate(wanted):
            self.lines[self.many + at] = first_line([(index, 1)], nodes, place)
        self.found = {}

    def go_up(self):
        """Goes up a level. Lines of wanted entries that are one letter are found."""
        opened = {}
        cut = {}
        # Entries are made of entries ahead of them, whose ends are open by then.
        for number in sorted(list(self.lines)):
            line = opened_line(self.lines[number], opened)
            if number >= self.many and is_letter(line):
                self.found[number - self.many] = cleaned(tuple(self.tables), line.stretches[0][0][0])
                continue
            parts = cut_line(line)
            if number < self.many:
                opened[number] = ends_of(line, parts)
                if opened[number][1] is None:
                    continue
            cut[number] = parts
        known = sorted(set(parts_in(cut)))
        place = {part: at for at, part in enumerate(known)}
        self.lines = {number: ranked(cut[number], place) for number in cut}
        self.tables.append(tuple(known))


def parts_in(lines):
    """All parts of lines."""
    found = []
    for number in lines:
        for stretch in lines[number].stretches:
            found.extend(stretch)
        for seam, _, _ in lines[number].cores:
            found.extend(seam)
    return found


def needed_nodes(nodes, wanted):
    """The indexes of the entries of which wanted entries are made, ascending."""
    needed = {index: True for index in wanted}
    for index in range(len(nodes) - 1, -1, -1):
        if index in needed and not isinstance(nodes[index], str):
            for inner, _ in nodes[index]:
                needed[inner] = True
    return sorted(list(needed))


def spun(nodes, wanted):
    """The list of the tables of the rows for which wanted entries stand."""
    spindle = Spindle(nodes, wanted)
    while len(spindle.found) < len(wanted):
        spindle.go_up()
    return [spindle.found[at] for at in range(len(wanted))]


def rows_of(nodes, wanted):
    """The list of the rows for which wanted entries stand."""
    written = [index for index in wanted if index != EMPTY]
    rows = {EMPTY: Row()}
    for index, tables in zip(written, spun(nodes, written)):
        rows[index] = row_with(tables, sizes_of(tables)[-1][0])
    return [rows[index] for index in wanted]
