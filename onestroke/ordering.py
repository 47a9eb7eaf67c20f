"""Numbered letters: each letter [11] that is met gets a number, and how letters are ordered is found out when asked.

A letter of level 0 is a word, any other one a tuple of pairs (number, times).
"""


class Order:
    """Letters, their numbers, and which of two of the same level is less, as far as it was asked."""

    def __init__(self):
        self.contents = []
        self.numbers = {}
        self.sizes = []
        self.levels = []
        self.known = {}

    def number_of(self, letter):
        """The number of a letter."""
        if letter not in self.numbers:
            self.numbers[letter] = len(self.contents)
            self.contents.append(letter)
            is_word = isinstance(letter, str)
            self.sizes.append(1 if is_word else sum([self.sizes[number] * times for number, times in letter]))
            self.levels.append(0 if is_word else self.levels[letter[0][0]] + 1)
        return self.numbers[letter]

    def is_less(self, one, other):
        """Whether a letter is less than another one of its level."""
        asked = []
        while one != other and (one, other) not in self.known:
            asked.append((one, other))
            mine, yours = self.contents[one], self.contents[other]
            at = unlike_at(mine, yours)
            if at is None:
                self.known[(one, other)] = len(mine) < len(yours)
            elif isinstance(mine, str) or mine[at][0] == yours[at][0]:
                self.known[(one, other)] = mine[at:] < yours[at:]
            else:
                # As letters are of letters of the level below, only these decide.
                one, other = mine[at][0], yours[at][0]
        answer = one != other and self.known[(one, other)]
        for pair in asked:
            self.known[pair] = answer
        return answer

    def cut(self, runs):
        """The letters, as tuples, that runs become. A cut is ahead of each run that is less than both neighbours."""
        parts = []
        start = 0
        for at in range(1, len(runs) - 1):
            number = runs[at][0]
            if self.is_less(number, runs[at - 1][0]) and self.is_less(number, runs[at + 1][0]):
                parts.append(tuple(runs[start:at]))
                start = at
        parts.append(tuple(runs[start:]))
        return parts

    def numbered(self, parts):
        """The runs of the next level that letters make."""
        runs = []
        for part in parts:
            number = self.number_of(part)
            if runs and runs[-1][0] == number:
                runs[-1] = (number, runs[-1][1] + 1)
            else:
                runs.append((number, 1))
        return runs

    def tables_with(self, top):
        """The tables of the row with this letter as its form."""
        levels = [[top]]
        while not isinstance(self.contents[levels[-1][0]], str):
            levels.append(sorted(set([at for number in levels[-1] for at, _ in self.contents[number]])))
        tables = []
        ranks = {}
        for numbers in levels[::-1]:
            letters = sorted([(self.placed(number, ranks), number) for number in numbers])
            tables.append(tuple([letter for letter, _ in letters]))
            ranks = {number: at for at, (_, number) in enumerate(letters)}
        return tuple(tables)

    def placed(self, number, ranks):
        """A letter, of letters of the level below that are told by their ranks in their table."""
        letter = self.contents[number]
        if isinstance(letter, str):
            return letter
        return tuple([(ranks[at], times) for at, times in letter])


def unlike_at(one, other):
    """The first index at which two strings or tuples differ; None if one is the beginning of the other."""
    for at, (mine, yours) in enumerate(zip(one, other)):
        if mine != yours:
            return at
    return None
