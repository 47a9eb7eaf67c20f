"""Rows as plain lists of words, folded word by word as [12] and [13] of the document tell it.

Nothing of the package is used here: the tests compare the package with it.
"""

import random

WORDS = ("a", "b", "c", "ab", "ba", "x", "y", "z", "abcdefgh", "zzzzzzzz")

# Values of any kind that are no words, no lists, no integers or no letters.
ODD = (
    None, True, False, 0, 1, -1, 7, 10 ** 99, -10 ** 99, "", "a", "A", "aB", "abcdefghi", "a b", "a\n", "\n", " ",
    "1", "~", "a1", b"", b"a", (), ("a",), ("a", "B"), ((0, 1),), [], ["a"], ["a", None], [["a"]], [("a",)], [1], [""],
    [True], [b"a"], {}, {"a": 1}, {0: "a"}, {"a": ["a"]}, [{}], [[[[[]]]]], ((((), ()),),), ValueError, object(),
)


def run_pairs(letters):
    """Each longest run of equal letters as a pair."""
    pairs = []
    for letter in letters:
        if pairs and pairs[-1][0] == letter:
            pairs[-1] = (letter, pairs[-1][1] + 1)
        else:
            pairs.append((letter, 1))
    return pairs


def fold_once(letters):
    """The letters of the next level."""
    pairs = run_pairs(letters)
    parts = [[]]
    for at, pair in enumerate(pairs):
        is_inner = 0 < at < len(pairs) - 1
        if is_inner and pair[0] < pairs[at - 1][0] and pair[0] < pairs[at + 1][0]:
            parts.append([])
        parts[-1].append(pair)
    return [tuple(part) for part in parts]


def form_of(words):
    """The form of a list of words with at least one word."""
    letters = list(words)
    while len(letters) > 1:
        letters = fold_once(letters)
    return letters[0]


def letters_of(words):
    """The list of the letters of a list of words."""
    entries = []
    indexes = {}

    def add(letter):
        if letter in indexes:
            return
        if isinstance(letter, str):
            entry = letter
        else:
            for inner, _ in letter:
                add(inner)
            entry = tuple((indexes[inner], times) for inner, times in letter)
        indexes[letter] = len(entries)
        entries.append(entry)

    if words:
        add(form_of(words))
    return entries


def words_of(entries):
    """The words that a list of letters stands for."""
    found = []
    for entry in entries:
        if isinstance(entry, str):
            found.append([entry])
        else:
            found.append([word for index, times in entry for word in found[index] * times])
    return found[-1] if found else []


def common_of(one, other):
    """The size of the longest common beginning of two lists."""
    many = 0
    while many < min(len(one), len(other)) and one[many] == other[many]:
        many += 1
    return many


def some_words(draw, most):
    """A list of words of one of several kinds: any words, repetitions, rows that grow like Fibonacci's."""
    size = draw.randint(1, most)
    words = WORDS[:draw.choice((2, 2, 3, 5, 10))]
    kind = draw.randrange(3)
    if kind == 0:
        return [draw.choice(words) for _ in range(size)]
    if kind == 1:
        one, other = [words[0]], [words[1]]
        while len(one) < size:
            one, other = (one + other if draw.random() < 0.8 else one * 2 + other), one
        return one[:size]
    out = []
    while len(out) < size:
        if out and draw.random() < 0.3:
            out = out + out[draw.randrange(len(out)):]
        out = out + [draw.choice(words) for _ in range(draw.randint(1, 4))] * draw.randint(1, 6)
    return out[:size]


def drawing(seed):
    """A source of choices that makes the same choices each time."""
    return random.Random(seed)
