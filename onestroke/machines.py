"""Machines: alive states, and what is said on the way from one to another."""

from onestroke.charts import chart_of
from onestroke.systems import first_of, is_at_rest, states_of


class Machine:
    """Alive states, those at rest among them, and moves: a strand and the next state for some pairs (state, key).

    A key of the alphabet without a move is lost. Any other key does nothing. The
    start is None if no pressed row counts from the first state.
    """

    def __init__(self, alphabet, start, resting, moves):
        self.alphabet = alphabet
        self.start = start
        self.resting = resting
        self.moves = moves
        self.nearest = nearest_keys(resting, {pair: moves[pair][1] for pair in moves})

    def move(self, state, key):
        """The strand that a key says in a state, and the next state; None if it is lost."""
        if key not in self.alphabet:
            return None, state
        return self.moves.get((state, key))

    def way(self, state):
        """A shortest list of keys that counts from a state."""
        found = []
        while self.nearest[state] is not None:
            key = self.nearest[state]
            found.append(key)
            state = self.moves[(state, key)][1]
        return found


def nearest_keys(resting, nexts):
    """The first key of a shortest list that counts, for each state from which there is one; None at rest."""
    before = {}
    for pair in sorted(list(nexts)):
        before.setdefault(nexts[pair], []).append(pair)
    found = {state: None for state in resting}
    todo = list(found)
    while todo:
        reached = []
        for target in todo:
            for state, key in before.get(target, []):
                if state not in found:
                    found[state] = key
                    reached.append(state)
        todo = reached
    return found


def resting_in(system):
    """A dict of the states at rest."""
    return {state: True for state in states_of(system) if is_at_rest(system, state)}


def nexts_in(system, chart):
    """The state behind each stroke that ends, for pairs (state, key)."""
    nexts = {}
    for state in states_of(system):
        for key in system.bound:
            after = chart.after(state, key)
            if after is not None:
                nexts[(state, key)] = after
    return nexts


def alive_in(system):
    """The ascending list of the alive states."""
    return sorted(list(nearest_keys(resting_in(system), nexts_in(system, chart_of(system)))))


def machine_of(chart):
    """The machine of the system of a chart."""
    system = chart.system
    resting = resting_in(system)
    nexts = nexts_in(system, chart)
    alive = nearest_keys(resting, nexts)
    moves = {}
    for state, key in nexts:
        after = nexts[(state, key)]
        if after in alive:
            moves[(state, key)] = (chart.strand_said(state, key), after)
    first = first_of(system)
    return Machine(system.bound, first if first in alive else None, resting, moves)
