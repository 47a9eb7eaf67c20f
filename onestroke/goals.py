"""Goals: which lists of keys have given commands, and how many lists of a given length count."""

from onestroke.charts import chart_of
from onestroke.errors import OutOfRange, TooMany
from onestroke.limits import GOAL
from onestroke.machines import nexts_in, resting_in
from onestroke.systems import first_of, states_of
from onestroke.values import is_within


class Goals:
    """The strokes of a system that end: (key, index of what is said, how much that is, next state) for each state."""

    def __init__(self, system):
        self.chart = chart_of(system)
        self.start = first_of(system)
        self.resting = resting_in(system)
        self.strokes_at = {state: [] for state in states_of(system)}
        nexts = nexts_in(system, self.chart)
        for state, key in nexts:
            index = self.chart.stroke_from(state, key)[0]
            self.strokes_at[state].append((key, index, self.chart.size_at(index), nexts[(state, key)]))

    def short_strokes(self, limit):
        """(key, list of the commands, next state) for each state, of the strokes with at most so many commands."""
        found = {}
        for state in self.strokes_at:
            found[state] = []
            for key, index, many, after in self.strokes_at[state]:
                if many <= limit:
                    row = self.chart.row_told(index)
                    words = list(row.listed())
                    found[state].append((key, words, after))
        return found


def way_back(ways, place):
    """The keys that lead to a place, of places told by the one before and a key."""
    found = []
    while ways[place] is not None:
        place, key = ways[place]
        found.append(key)
    return found[::-1]


def keys_for(system, goal):
    """A shortest list of keys that counts and has the goal as its commands; None if there is none."""
    if goal.size > GOAL:
        raise TooMany(GOAL)
    goals = Goals(system)
    words = list(goal.listed())
    strokes = goals.short_strokes(len(words))
    # Places: a state, and how many of the words are said.
    ways = {(goals.start, 0): None}
    todo = list(ways)
    while todo:
        reached = []
        for state, at in todo:
            if at == len(words) and state in goals.resting:
                return way_back(ways, (state, at))
            for key, said, after in strokes[state]:
                place = (after, at + len(said))
                if place not in ways and words[at:at + len(said)] == said:
                    ways[place] = ((state, at), key)
                    reached.append(place)
        todo = reached
    return None


def check_many(many):
    """The error of a number of keys."""
    if not is_within(many, 0, GOAL):
        raise OutOfRange(many)


def count_rows(system, many):
    """How many lists of so many keys count."""
    check_many(many)
    goals = Goals(system)
    counts = {state: 1 if state in goals.resting else 0 for state in goals.strokes_at}
    for _ in range(many):
        counts = {state: sum([counts[after] for _, _, _, after in goals.strokes_at[state]]) for state in counts}
    return counts[goals.start]


def best_of(system, many, sign):
    """(size, keys) of a list of so many keys that counts, with the least size times the sign; None if none counts."""
    check_many(many)
    goals = Goals(system)
    # For each number of keys: (size times sign, key, next state) for the states from which so many keys count.
    layers = [{state: (0, None, None) for state in goals.resting}]
    for _ in range(many):
        layers.append(layer_above(goals, layers[-1], sign))
    if goals.start not in layers[-1]:
        return None
    state = goals.start
    found = []
    for layer in layers[:0:-1]:
        _, key, state = layer[state]
        found.append(key)
    return layers[-1][goals.start][0] * sign, found


def layer_above(goals, layer, sign):
    """The best first keys for one key more."""
    found = {}
    for state in goals.strokes_at:
        for key, _, many, after in goals.strokes_at[state]:
            if after in layer:
                worth = layer[after][0] + many * sign
                if state not in found or worth < found[state][0]:
                    found[state] = (worth, key, after)
    return found


def fewest(system, many):
    """(size, keys) with the fewest commands of the lists of so many keys that count; None if none counts."""
    return best_of(system, many, 1)


def most(system, many):
    """(size, keys) with the most commands of the lists of so many keys that count; None if none counts."""
    return best_of(system, many, -1)
