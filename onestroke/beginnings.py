"""Beginnings: how far all commands that can come and count are the same.

For each alive state a shortest list that counts is an example, and what is
certain is a beginning of its commands. A stroke to another state, and the
example from there on, may part from the example of this state somewhere. What
is certain in the other state ends somewhere, and so does then what is certain
in this one, behind the commands of the stroke. The least of all these places,
over all ways through the states, is how much is certain.
"""

from onestroke.machines import machine_of
from onestroke.strands import common_in, joined_strands, row_of_strand, size_of, strand_ahead


class Beginnings:
    """The size of the certain row of each alive state, and where it ends."""

    def __init__(self, machine, loom):
        self.machine = machine
        self.loom = loom
        self.states = sorted(list(machine.nearest))
        self.examples = examples_of(machine, loom)
        self.sizes = {state: size_of(self.examples[state]) for state in self.states}
        # The key with which another list parts from the example, and the key of the stroke that is certain as a whole.
        self.partings = {}
        self.passing = {}
        self.find_partings()
        while self.pass_on():
            pass

    def find_partings(self):
        """Finds where the stroke of each key, and the example behind it, part from an example."""
        for state, key in self.machine.moves:
            said, after = self.machine.moves[(state, key)]
            if self.sizes[state] > 0 and key != self.machine.nearest[state]:
                other = joined_strands(self.loom, said, self.examples[after])
                many = common_in(self.loom, self.examples[state], other)
                if many < self.sizes[state]:
                    self.sizes[state] = many
                    self.partings[state] = key

    def pass_on(self):
        """Lets no state have more that is certain than the next ones allow. Returns whether one had more."""
        changed = False
        for state, key in self.machine.moves:
            said, after = self.machine.moves[(state, key)]
            many = size_of(said) + self.sizes[after]
            if many < self.sizes[state]:
                self.sizes[state] = many
                self.passing[state] = key
                changed = True
        return changed

    def strand_from(self, state):
        """The strand of the certain row of a state."""
        return strand_ahead(self.loom, self.examples[state], self.sizes[state])

    def row_from(self, state):
        """The certain row of a state."""
        return row_of_strand(self.loom, self.strand_from(state))

    def ways(self, state):
        """Two lists of keys that count, whose commands have no more than the certain row in common."""
        ahead = []
        while state in self.passing:
            ahead.append(self.passing[state])
            state = self.machine.moves[(state, self.passing[state])][1]
        one = ahead + self.machine.way(state)
        if state not in self.partings:
            return one, list(one)
        key = self.partings[state]
        return one, ahead + [key] + self.machine.way(self.machine.moves[(state, key)][1])


def examples_of(machine, loom):
    """The commands of a shortest list that counts, for each alive state."""
    examples = {}
    for state in machine.nearest:
        key = machine.nearest[state]
        if key is None:
            examples[state] = None
        else:
            # The next state is nearer to rest, so it stands ahead.
            said, after = machine.moves[(state, key)]
            examples[state] = joined_strands(loom, said, examples[after])
    return examples


def beginnings_of(chart):
    """The beginnings of the system of a chart."""
    return Beginnings(machine_of(chart), chart.loom)
