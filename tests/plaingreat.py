"""Strokes with great numbers, played by doubling: what is said is kept as a tree of halves, never word by word.

Bodies are plain as in plainplay. The tests compare the package with it where plainplay would take too long.
"""

import functools
import sys

from onestroke.rows import Row


def deeply(function):
    """The function with a higher limit of recursion, as trees are as deep as strokes are within one another.

    The limit is set back then: what the package does must not rest on it.
    """
    @functools.wraps(function)
    def called(*given):
        limit = sys.getrecursionlimit()
        sys.setrecursionlimit(20000)
        try:
            return function(*given)
        finally:
            sys.setrecursionlimit(limit)
    return called


class Node:
    """What is said: two nodes, one behind the other, or a word."""

    def __init__(self, left, right, word=None):
        self.left = left
        self.right = right
        self.leaf = word
        self.size = 1 if word is not None else left.size + right.size

    def word(self, index):
        """The word at a place."""
        node = self
        while node.leaf is None:
            if index < node.left.size:
                node = node.left
            else:
                index -= node.left.size
                node = node.right
        return node.leaf

    def row(self, known):
        """The row of the package, put together by its sums."""
        if self not in known:
            known[self] = Row(self.leaf) if self.leaf is not None else self.left.row(known) + self.right.row(known)
        return known[self]


def size(node):
    return 0 if node is None else node.size


@deeply
def row_of(node):
    return Row() if node is None else node.row({})


def both(one, other):
    """One node behind another one. None stands for nothing."""
    if one is None or other is None:
        return other if one is None else one
    return Node(one, other)


class Book:
    """Does strokes. A result is (node, mode, None); (node, None, pair) until the stroke is found that begins again;
    or (front, None, (ring,))."""

    def __init__(self, bodies):
        self.bodies = bodies
        self.known = {}
        self.open = {}
        self.words = {}

    def press(self, mode, key):
        pair = (mode, key)
        if pair not in self.bodies:
            return None, mode, None
        if pair in self.open:
            return None, None, pair
        if pair not in self.known:
            self.open[pair] = True
            node, mode, again = self.items(mode, self.bodies[pair])
            del self.open[pair]
            if again == pair:
                return None, None, (node,)
            if again is not None:
                return node, None, again
            self.known[pair] = node, mode, None
        return self.known[pair]

    def items(self, mode, items):
        said = None
        for item in items:
            if item[0] == "go":
                mode = item[1]
                continue
            if item[0] == "say":
                found = Node(None, None, item[1]), mode, None
            elif item[0] == "press":
                found = self.press(mode, item[1])
            else:
                found = many_times(item[1], mode, lambda at, items=item[2]: self.items(at, items))
            said = both(said, found[0])
            mode = found[1]
            if mode is None:
                return said, None, found[2]
        return said, mode, None

    def pressed(self, mode, node):
        """The same for the words of a node, pressed one after the other."""
        if node is None:
            return None, mode, None
        if (node, mode) not in self.words:
            if node.leaf is not None:
                found = self.press(mode, node.leaf)
            else:
                found = self.pressed(mode, node.left)
                if found[1] is not None:
                    more = self.pressed(found[1], node.right)
                    found = both(found[0], more[0]), more[1], more[2]
            self.words[node, mode] = found
        return self.words[node, mode]


def many_times(number, mode, action):
    """What an action does so many times, by doubling; it leads from one mode to another."""
    said = None
    first = {}
    while number and mode not in first:
        first[mode] = action(mode)
        said = both(said, first[mode][0])
        if first[mode][1] is None:
            return said, None, first[mode][2]
        mode = first[mode][1]
        number -= 1
    steps = first
    while number:
        if number % 2:
            said = both(said, steps[mode][0])
            mode = steps[mode][1]
        number //= 2
        if number:
            steps = {at: (both(node, steps[to][0]), steps[to][1]) for at, (node, to, *_) in steps.items() if to in steps}
    return said, mode, None


@deeply
def stroke(books, modes, key):
    """(front, ring, None) or (node, None, modes): of a chain of plain books, from a tuple of modes."""
    front, ring = Node(None, None, key), None
    ends = []
    for bodies, mode in zip(books, modes):
        book = Book(bodies)
        said, mode, again = book.pressed(mode, front)
        if again is not None:
            front, ring = said, again
            continue
        if ring is not None:
            turns = {}
            while ring[0] is not None and mode not in turns:
                turns[mode] = said
                more, mode, again = book.pressed(mode, ring[0])
                said = both(said, more)
                if again is not None:
                    break
            if again is None and ring[0] is not None:
                # From the first turn in this mode on, all comes again.
                at = turns[mode]
                again = (part_behind(book, ring[0], mode),)
                said = at
            front, ring = said, again if ring[0] is not None else (None,)
            continue
        front = said
        ends.append(mode)
    return front, ring, None if ring is not None else tuple(ends)


def part_behind(book, node, mode):
    """What turns of a ring say from a mode on until this mode comes again."""
    start = mode
    said = None
    while True:
        more, mode, _ = book.pressed(mode, node)
        said = both(said, more)
        if mode == start:
            return said
