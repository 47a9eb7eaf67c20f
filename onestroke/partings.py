"""Partings: shortest lists of keys that part two states, one of each of two machines.

A list of keys that counts from just one of both states parts them, whatever
was ahead. One that counts from both, with some commands each, does so unless
the commands that are still ahead in one of both make up for the difference: a
delay (ahead in the one, ahead in the other), of which at least one is empty.
So each list has one delay with which it does not part the states, or none. Of
all lists only a shortest one matters, and a shortest one of those with another
delay: with any delay, one of both parts the states, and no shorter list does.
"""

from onestroke.strands import joined_strands, mark_of, size_of, strand_ahead, strand_behind


class Parting:
    """A list of keys that counts: its delay or None, the keys with which it begins, and the rest of it."""

    def __init__(self, delay, begin, behind):
        self.delay = delay
        self.begin = begin
        self.behind = behind

    def listed_keys(self):
        """The list of the keys."""
        found = []
        parting = self
        while parting is not None:
            found.extend(parting.begin)
            parting = parting.behind
        return found


class Partings:
    """The partings of pairs of alive states; each move from such a pair to another such pair leads to one of them."""

    def __init__(self, loom, one, other, pairs):
        self.loom = loom
        self.one = one
        self.other = other
        self.alphabet = sorted(set(one.alphabet + other.alphabet))
        self.found = {pair: [] for pair in pairs}
        # What leads to each pair: (pair, key, strand of the one, strand of the other).
        self.arrows = {pair: [] for pair in pairs}
        # Partings of so many keys that were met: (pair, parting).
        self.layers = [[]]
        for pair in pairs:
            self.look_at(pair)

    def look_at(self, pair):
        """Notes the arrows from a pair, and what parts its states at once or with the next key."""
        mine, yours = pair
        rests = [mine in self.one.resting, yours in self.other.resting]
        if any(rests):
            self.meet(0, pair, Parting((None, None) if all(rests) else None, [], None))
        for key in self.alphabet:
            move, other = self.one.move(mine, key), self.other.move(yours, key)
            if move is not None and other is not None:
                self.arrows[(move[1], other[1])].append((pair, key, move[0], other[0]))
            elif move is not None or other is not None:
                way = self.other.way(other[1]) if move is None else self.one.way(move[1])
                self.meet(len(way) + 1, pair, Parting(None, [key] + way, None))

    def meet(self, many, pair, parting):
        """Notes a parting of so many keys."""
        while len(self.layers) <= many:
            self.layers.append([])
        self.layers[many].append((pair, parting))

    def is_settled(self, pair):
        """Whether the partings of a pair part it with any delay."""
        found = self.found[pair]
        return len(found) == 2 or len(found) == 1 and found[0].delay is None

    def mark(self, delay):
        """A value that is the same for equal delays, and None for none."""
        return None if delay is None else (mark_of(self.loom, delay[0]), mark_of(self.loom, delay[1]))

    def accept(self, pair, parting):
        """Keeps a parting of a pair if no others are as good. Returns whether it is kept."""
        found = self.found[pair]
        if self.is_settled(pair) or found and self.mark(found[0].delay) == self.mark(parting.delay):
            return False
        found.append(parting)
        return True

    def find_all(self, start):
        """Finds all partings; or those up to one that parts a pair that starts without a delay."""
        many = 0
        while many < len(self.layers):
            for pair, parting in list(self.layers[many]):
                if self.accept(pair, parting):
                    self.go_back(many, pair, parting)
            if start is not None and self.shortest(start) is not None:
                return
            many = many + 1

    def go_back(self, many, pair, parting):
        """Notes what a parting makes of the pairs ahead."""
        for before, key, mine, yours in self.arrows[pair]:
            if not self.is_settled(before):
                self.meet(many + 1, before, Parting(self.delay_ahead(parting.delay, mine, yours), [key], parting))

    def delay_ahead(self, delay, mine, yours):
        """The delay ahead of two strands that come to this delay; None if there is none."""
        if delay is None:
            return None
        one = joined_strands(self.loom, mine, delay[1])
        other = joined_strands(self.loom, yours, delay[0])
        if size_of(one) > size_of(other):
            return (None, self.without_end(one, other)) if self.ends_with(one, other) else None
        return (self.without_end(other, one), None) if self.ends_with(other, one) else None

    def ends_with(self, strand, end):
        """Whether a strand ends with another one that is no longer."""
        return mark_of(self.loom, strand_behind(self.loom, strand, size_of(end))) == mark_of(self.loom, end)

    def without_end(self, strand, end):
        """What stands ahead of the end of a strand."""
        return strand_ahead(self.loom, strand, size_of(strand) - size_of(end))

    def shortest(self, pair):
        """The keys of a shortest list that parts a pair without a delay; None if none is found."""
        for parting in self.found[pair]:
            if not is_even(parting.delay):
                return parting.listed_keys()
        return None

    def delays(self):
        """The delay of each pair."""
        return {pair: self.found[pair][0].delay for pair in self.found}


def is_even(delay):
    """Whether a delay is none at all."""
    return delay is not None and delay[0] is None and delay[1] is None


def reached_pairs(one, other):
    """The pairs of alive states that are reached from both first states, if they are alive."""
    pairs = {(one.start, other.start): True}
    todo = list(pairs)
    alphabet = sorted(set(one.alphabet + other.alphabet))
    while todo:
        mine, yours = todo.pop()
        for key in alphabet:
            move, more = one.move(mine, key), other.move(yours, key)
            if move is not None and more is not None and (move[1], more[1]) not in pairs:
                pairs[(move[1], more[1])] = True
                todo.append((move[1], more[1]))
    return list(pairs)
