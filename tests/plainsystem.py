"""Systems played key by key on plain lists, as [30] to [42] of the document tell it.

A plain system is a list of plain books (first, rest, bodies), with bodies as in plainplay; one book is a book, more are
a chain. Its states are tuples of modes here, also those of a book; shown() makes them those of the package.
"""

import itertools

from onestroke.books import Chain
import plain
import plainplay


class Plain:
    """A plain system: its states, what its strokes do, and what all rows of a few keys do."""

    def __init__(self, books):
        self.books = [(first, tuple(sorted(set(rest))), bodies) for first, rest, bodies in books]
        self.bodies = [bodies for _, _, bodies in self.books]
        self.first = tuple(first for first, _, _ in self.books)
        self.bound = tuple(sorted({key for _, key in self.bodies[0]}))
        self.states = list(itertools.product(*[sorted(modes_of(book)) for book in self.books]))
        self.strokes = {}
        self.alive_states = None

    def made(self):
        """The book or the chain of the package."""
        books = [plainplay.book_of(bodies, first, rest) for first, rest, bodies in self.books]
        return books[0] if len(books) == 1 else Chain(*books)

    def shown(self, state):
        """The state as the package has it."""
        return state[0] if len(self.books) == 1 else state

    def is_rest(self, state):
        return all(mode in rest for mode, (_, rest, _) in zip(state, self.books))

    def stroke(self, state, key):
        """(commands, None, state) or (front, ring, None)."""
        if (state, key) not in self.strokes:
            self.strokes[state, key] = plainplay.chained(self.bodies, state, key)
        return self.strokes[state, key]

    def after(self, state, key):
        """The state behind a stroke, None if it never ends."""
        return self.stroke(state, key)[2]

    def run(self, keys, state=None):
        """(commands, None, state), or (front, ring, None): what comes of a list of keys."""
        state = self.first if state is None else state
        said = []
        for key in keys:
            more, ring, state = self.stroke(state, key)
            said = said + more
            if state is None:
                return said, ring, None
        return said, None, state

    def counted(self, keys, state=None):
        """The commands of a list of keys that counts, None of another one."""
        said, _, end = self.run(keys, state)
        return said if end is not None and self.is_rest(end) else None

    def alive(self):
        """All alive states: those from which another alive one is reached, and those at rest."""
        if self.alive_states is None:
            found = {state for state in self.states if self.is_rest(state)}
            while True:
                more = {state for state in self.states for key in self.bound if self.after(state, key) in found} - found
                if not more:
                    break
                found |= more
            self.alive_states = found
        return self.alive_states

    def rows_from(self, state, many):
        """(keys, commands) of all lists of at most so many keys that count from a state."""
        for size in range(many + 1):
            for keys in itertools.product(self.bound, repeat=size):
                said = self.counted(keys, state)
                if said is not None:
                    yield keys, said

    def certain(self, many=None):
        """The certain rows of all alive states: key by key, as [40] tells it."""
        many = 2 * len(self.states) if many is None else many
        known = {state: [] for state in self.states if self.is_rest(state)}
        for _ in range(many):
            longer = {}
            for state in self.alive():
                rows = [[]] if self.is_rest(state) else []
                for key in self.bound:
                    after = self.after(state, key)
                    if after in known:
                        rows.append(self.stroke(state, key)[0] + known[after])
                if rows:
                    longer[state] = common_of_all(rows)
            known = longer
        return known


def modes_of(book):
    """The modes of a plain book."""
    first, rest, bodies = book
    found = {first, *rest, *[mode for mode, _ in bodies]}
    todo = [item for items in bodies.values() for item in items]
    while todo:
        item = todo.pop()
        if item[0] == "go":
            found.add(item[1])
        elif item[0] == "times":
            todo.extend(item[2])
    return found


def common_of_all(rows):
    """The longest common beginning of some lists."""
    found = rows[0]
    for row in rows[1:]:
        found = found[:plain.common_of(found, row)]
    return found


def lists_of(keys, most):
    """All lists of at most so many of the keys, the shorter ones first, ascending."""
    for size in range(most + 1):
        for pressed in itertools.product(sorted(keys), repeat=size):
            yield list(pressed)


def first_parting(one, other, most):
    """The number of keys of a shortest list that parts two plain systems; None if no list of so many keys does."""
    for pressed in lists_of(set(one.bound + other.bound), most):
        if one.counted(pressed) != other.counted(pressed):
            return len(pressed)
    return None


def left_over(one, other):
    """Two rows without their longest common beginning."""
    many = plain.common_of(one, other)
    return tuple(one[many:]), tuple(other[many:])


def is_apart(one, other, place):
    """Whether what was pressed so far parts two plain systems."""
    state, more, delay = place
    rests = [state is not None and one.is_rest(state), more is not None and other.is_rest(more)]
    return rests[0] != rests[1] or rests[0] and delay != ((), ())


def step_from(system, state, key):
    """The commands of a key and the next state, None if it is not alive."""
    if state is None or key not in system.bound:
        return [], state
    said, _, after = system.stroke(state, key)
    return said, after if after in system.alive() else None


def exact_parting(one, other, most):
    """The same as by first_parting, also for many keys, by breadth over states and delays; at most so many of these."""
    starts = [system.first if system.first in system.alive() else None for system in (one, other)]
    todo = [(starts[0], starts[1], ((), ()))]
    seen = set(todo)
    many = 0
    while todo:
        if any(is_apart(one, other, place) for place in todo):
            return many
        reached = []
        for state, more, delay in todo:
            for key in sorted(set(one.bound + other.bound)):
                (said, after), (told, behind) = step_from(one, state, key), step_from(other, more, key)
                if after is None and behind is None:
                    continue
                left = None
                if after is not None and behind is not None and delay is not None:
                    left = left_over(list(delay[0]) + said, list(delay[1]) + told)
                    left = None if left[0] and left[1] else left
                if (after, behind, left) not in seen:
                    seen.add((after, behind, left))
                    reached.append((after, behind, left))
        if len(seen) > most:
            raise OverflowError(most)
        todo = reached
        many += 1
    return None


MODES = ("m", "n", "o", "p", "q", "r")
KEYS = ("a", "b", "k", "l")
COMMANDS = ("x", "y", "z")


def is_small(system, most=40):
    """Whether all strokes have few commands."""
    return all(
        len(said) <= most and len(ring or ()) <= most
        for state in system.states for key in system.bound for said, ring, _ in [system.stroke(state, key)])


def sayings(draw, words, more):
    """Plain items that say words."""
    items = [("say", word) for word in words]
    return items if not more or draw.random() < 0.7 else [("times", 1, items)]


def table_book(draw, modes, keys, commands, most=3, share=0.8):
    """A plain book in which each stroke says a few words and goes to a mode."""
    bodies = {}
    for mode in modes:
        for key in keys:
            if draw.random() < share:
                words = [draw.choice(commands) for _ in range(draw.randint(0, most))]
                bodies[mode, key] = [("say", word) for word in words] + [("go", draw.choice(modes))]
    return draw.choice(modes), some_rest(draw, modes), bodies


def some_rest(draw, modes):
    """Rest modes: most times one or more of the modes."""
    rest = [mode for mode in modes if draw.random() < 0.3]
    return rest if rest or draw.random() < 0.1 else [draw.choice(modes)]


def any_book(draw, modes, keys, commands):
    """A plain book of one of several kinds."""
    if draw.random() < 0.7:
        return table_book(draw, modes, keys, commands, draw.choice((1, 2, 3)), draw.choice((0.7, 0.9, 1)))
    bodies = plainplay.some_bodies(draw, modes, keys, commands, 3)
    return draw.choice(modes), some_rest(draw, modes), bodies


def some_system(draw, books=None, modes=4, keys=3):
    """A plain system with few commands in each stroke."""
    while True:
        many = draw.choice((1, 1, 1, 2, 2, 3)) if books is None else books
        names = KEYS[:draw.randint(min(2, keys), keys)]
        found = []
        for at in range(many):
            some = MODES[:draw.randint(1 if at else 2, modes if many == 1 else (3 if many == 2 else 2))]
            commands = COMMANDS[:draw.randint(1, 3)]
            found.append(any_book(draw, some, names if at == 0 else COMMANDS, commands))
        system = Plain(found)
        if len(system.states) <= 36 and is_small(system):
            return system


def late_system(draw):
    """A plain system of one book in which much is certain long before the next rest."""
    while True:
        modes = MODES[:draw.randint(3, 5)]
        first, _, bodies = table_book(draw, modes, KEYS[:draw.choice((1, 2, 2))], ("x",) if draw.random() < 0.6 else ("x", "y"), 3, 0.8)
        system = Plain([(first, modes[-1:], bodies)])
        if system.first in system.alive() and any(system.certain().values()):
            return system
