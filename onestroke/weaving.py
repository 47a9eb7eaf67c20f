"""Weaving: words as threads, which are put together without going through all their levels.

A thread stands for some words that may stand anywhere in a row. Whatever
stands around it, some of its letters are certain at each level. The letters at
both ends may be cut in other ways there: its lefts and its rights. From some
level on nothing is certain any more: there it has a few runs of letters.

A thread is a word, two threads, or a thread so many times. Below the level of
the thread with which it begins, its lefts are the lefts of that one. So only
those from there on are kept, and likewise its rights. What comes of the rights
of a thread and the lefts of another one behind it is worked out once for the
least threads that have these ends up to a level.
"""

from onestroke.folding import runs_of
from onestroke.ordering import Order
from onestroke.scripts import EMPTY

# So many turns of a wheel are not written one by one.
TURNS = 6


class Thread:
    """What is known of some words: the threads with which they begin and end, and what is certain of no letter."""

    def __init__(self, number, opening, closing, times):
        self.number = number
        self.opening = opening
        self.closing = closing
        # A thread so many times; 1 for a word and for two threads.
        self.times = times
        # How many words it has, and the number of the letter that it is if it stands alone.
        self.many = 1
        self.top = None
        self.level = 0
        self.runs = []
        self.lefts = []
        self.rights = []
        # The least threads of the same level with which it begins and ends, so that long chains of them are skipped.
        self.least_opening = self
        self.least_closing = self

    def settle_at(self, level, runs):
        """Tells it from which level on nothing is certain any more, and what its runs are there."""
        self.level = level
        self.runs = runs
        if self.opening.level == level:
            self.least_opening = self.opening.least_opening
        if self.closing.level == level:
            self.least_closing = self.closing.least_closing

    def lefts_between(self, low, high):
        """Its lefts from a level on to another one."""
        pieces = []
        thread = self
        while low < high:
            base = max(low, thread.opening.level)
            if base < high:
                pieces.append(thread.lefts[base - thread.opening.level:high - thread.opening.level])
                high = base
            thread = thread.opening.least_opening
        return [runs for piece in pieces[::-1] for runs in piece]

    def rights_between(self, low, high):
        """Its rights from a level on to another one."""
        pieces = []
        thread = self
        while low < high:
            base = max(low, thread.closing.level)
            if base < high:
                pieces.append(thread.rights[base - thread.closing.level:high - thread.closing.level])
                high = base
            thread = thread.closing.least_closing
        return [runs for piece in pieces[::-1] for runs in piece]


class Wheel:
    """Runs that come so many times, with others ahead of them and behind them."""

    def __init__(self, before, turn, times, behind):
        self.before = before
        self.turn = turn
        self.times = times
        self.behind = behind

    def settle(self):
        """Sees to it that there is a cut on both sides of the turns; without turns all is ahead.

        Whatever is put ahead or behind is taken off the turns.
        """
        turn = runs_of(self.turn)
        if len(turn) == 1:
            self.behind = [(turn[0][0], turn[0][1] * self.times)] + self.behind
            self.times = 0
        elif turn[0][0] == turn[-1][0]:
            # The last run of a turn and the first one of the next turn are one run.
            self.before = self.before + turn[:1]
            self.behind = turn[1:] + self.behind
            turn = turn[1:-1] + [(turn[0][0], turn[-1][1] + turn[0][1])]
            self.times = self.times - 1
        if self.times < TURNS:
            self.before = runs_of(self.before + turn * self.times + self.behind)
            self.turn, self.behind = [], []
            return
        self.turn = turn

    def rotate(self, at):
        """Lets the turns begin at another run. The second turn and the last but one are within turns then."""
        turn = self.turn
        self.before = runs_of(self.before + turn + turn[:at])
        self.behind = runs_of(turn[at:] + turn + self.behind)
        self.turn = turn[at:] + turn[:at]
        self.times = self.times - 3


class Loom:
    """Threads, each made once."""

    def __init__(self):
        self.order = Order()
        self.made = {}
        self.zones = {}

    def above(self, parts):
        """The runs that parts become at the next level."""
        return self.order.numbered(parts)

    def word(self, word):
        """The thread of a word."""
        if word not in self.made:
            thread = Thread(len(self.made), None, None, 1)
            thread.runs = [(self.order.number_of(word), 1)]
            self.made[word] = thread
        return self.made[word]

    def tied(self, one, other):
        """The thread of two threads, one behind the other."""
        pair = (one.number, other.number)
        if pair not in self.made:
            thread = Thread(len(self.made), one, other, 1)
            thread.many = one.many + other.many
            between = self.zone(one, other)
            if one.level <= other.level:
                self.open_left(thread, runs_of(one.runs + between))
            else:
                self.open_right(thread, runs_of(between + other.runs))
            self.made[pair] = thread
        return self.made[pair]

    def open_left(self, thread, ahead):
        """The lefts of two threads, of which the first one has nothing certain any more."""
        one, other = thread.opening, thread.closing
        for runs in other.lefts_between(one.level, other.level):
            parts = self.order.cut(runs_of(ahead + runs)) if ahead else [runs]
            thread.lefts.append(list(parts[0]))
            ahead = self.above(parts[1:])
        self.close(thread, other.level, runs_of(ahead + other.runs))

    def open_right(self, thread, behind):
        """The rights of two threads, of which the second one has nothing certain any more."""
        one, other = thread.opening, thread.closing
        for runs in one.rights_between(other.level, one.level):
            parts = self.order.cut(runs_of(runs + behind)) if behind else [runs]
            thread.rights.append(list(parts[-1]))
            behind = self.above(parts[:-1])
        self.close(thread, one.level, runs_of(one.runs + behind))

    def close(self, thread, level, runs):
        """The ends of a thread from the level on at which it is just these runs."""
        parts = self.order.cut(runs)
        while len(parts) > 2:
            thread.lefts.append(list(parts[0]))
            thread.rights.append(list(parts[-1]))
            runs = self.above(parts[1:-1])
            parts = self.order.cut(runs)
            level = level + 1
        thread.settle_at(level, runs)

    def power(self, one, times):
        """The thread of a thread so many times."""
        if times == 1:
            return one
        mark = (one.number, 0, times)
        if mark not in self.made:
            thread = Thread(len(self.made), one, one, times)
            thread.many = one.many * times
            wheel = Wheel([], one.runs + self.zone(one, one), times - 1, one.runs)
            level = one.level
            wheel.settle()
            while wheel.turn:
                self.turn_up(thread, wheel)
                level = level + 1
                wheel.settle()
            self.close(thread, level, wheel.before)
            self.made[mark] = thread
        return self.made[mark]

    def lowest(self, runs):
        """The index of the first run of the least letter."""
        least = 0
        for at in range(1, len(runs)):
            if self.order.is_less(runs[at][0], runs[least][0]):
                least = at
        return least

    def turn_up(self, thread, wheel):
        """Goes up a level with a wheel."""
        wheel.rotate(self.lowest(wheel.turn))
        ahead = self.order.cut(wheel.before)
        behind = self.order.cut(wheel.behind)
        thread.lefts.append(list(ahead[0]))
        thread.rights.append(list(behind[-1]))
        wheel.before = self.above(ahead[1:])
        wheel.behind = self.above(behind[:-1])
        wheel.turn = self.above(self.order.cut(wheel.turn))

    def zone(self, one, other):
        """The runs that come of the ends of two threads, one behind the other, at the lower one of their levels."""
        todo = []
        level = min(one.level, other.level)
        runs = []
        while level > 0:
            one, other = one.least_closing, other.least_opening
            while one.closing.level >= level:
                one = one.closing.least_closing
            while other.opening.level >= level:
                other = other.opening.least_opening
            if (one.number, other.number) in self.zones:
                runs = self.zones[(one.number, other.number)]
                break
            todo.append((one, other))
            level = max(one.closing.level, other.opening.level)
        for one, other in todo[::-1]:
            runs = self.grown(one, other, level, runs)
            level = min(one.level, other.level)
            self.zones[(one.number, other.number)] = runs
        return runs

    def grown(self, one, other, level, runs):
        """The runs between two threads, which have ends of their own from this level on."""
        for at in range(level, min(one.level, other.level)):
            right = one.rights[at - one.closing.level]
            left = other.lefts[at - other.opening.level]
            runs = self.above(self.order.cut(runs_of(right + runs + left)))
        return runs

    def form(self, thread):
        """The number of the form of the row that is this thread alone."""
        if thread.top is None:
            thread.top = self.closed(thread)
        return thread.top

    def closed(self, thread):
        """The same where it is asked for the first time."""
        ahead = []
        behind = []
        lefts = thread.lefts_between(0, thread.level)
        for left, right in zip(lefts, thread.rights_between(0, thread.level)):
            ahead = self.above(self.order.cut(runs_of(ahead + left)))
            behind = self.above(self.order.cut(runs_of(right + behind)))
        runs = runs_of(ahead + thread.runs + behind)
        while len(runs) > 1 or runs[0][1] > 1:
            runs = self.above(self.order.cut(runs))
        return runs[0][0]


class Weaver:
    """Threads for entries."""

    def __init__(self, loom, nodes):
        self.loom = loom
        self.nodes = nodes
        self.threads = {EMPTY: None}

    def made_of(self, index):
        """The thread of an entry whose entries have threads."""
        entry = self.nodes[index]
        if isinstance(entry, str):
            return self.loom.word(entry)
        threads = [self.loom.power(self.threads[inner], times) for inner, times in entry]
        while len(threads) > 1:
            pairs = [self.loom.tied(one, other) for one, other in zip(threads[::2], threads[1::2])]
            threads = pairs + threads[len(pairs) * 2:]
        return threads[0]

    def needed(self, wanted):
        """The indexes of the entries of which an entry is made and that have no threads, ascending."""
        needed = {}
        todo = [wanted]
        while todo:
            index = todo.pop()
            if index not in needed and index not in self.threads:
                needed[index] = True
                if not isinstance(self.nodes[index], str):
                    todo.extend([inner for inner, _ in self.nodes[index]])
        return sorted(list(needed))

    def thread_at(self, index):
        """The thread of an entry; None for nothing."""
        for at in self.needed(index):
            self.threads[at] = self.made_of(at)
        return self.threads[index]
