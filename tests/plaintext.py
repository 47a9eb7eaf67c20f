"""How the texts of bodies and books are written, checked in another way than the package does it."""

import functools
import re

from onestroke.errors import InvalidItem, TooDeep, TooMany

WORD = "[a-z]{1,8}"
# A Times whose parentheses are read is written as #.
ITEM = f"(?:[!@]?{WORD}|#)"
LIST = f"(?:{ITEM}(?: {ITEM})*)?"
TIMES = re.compile(rf"(?:0|[1-9][0-9]{{0,9}})\({LIST}\)")


@functools.lru_cache(maxsize=None)
def is_written(text):
    """Whether a text is written as that of a body, with any number of items and any depth."""
    if "#" in text:
        return False
    while True:
        shorter = TIMES.sub("#", text)
        if shorter == text:
            return re.fullmatch(LIST, text) is not None
        text = shorter


@functools.lru_cache(maxsize=None)
def is_beginning(text):
    """Whether some text written so begins with this one: it is enough to end the last item and to close what is open."""
    closing = ")" * (text.count("(") - text.count(")"))
    return any(is_written(text + more + closing) for more in ("", "a", "()"))


def longest_beginning(text):
    """The length of the longest beginning with which some text written so begins."""
    low, high = 0, len(text)
    while low < high:
        middle = (low + high + 1) // 2
        if is_beginning(text[:middle]):
            low = middle
        else:
            high = middle - 1
    return low


def items_in(text):
    """The plain items of a text that is written so."""
    lists = [[]]
    numbers = []
    for token in re.findall(rf"[!@]?{WORD}|[0-9]+\(|\)", text):
        if token == ")":
            items = lists.pop()
            lists[-1].append(("times", numbers.pop(), items))
        elif token.endswith("("):
            numbers.append(int(token[:-1]))
            lists.append([])
        else:
            kind = {"!": "say", "@": "go"}.get(token[0], "press")
            lists[-1].append((kind, token.lstrip("!@")))
    return lists[0]


def depth_of(items):
    """How many Times are within one another."""
    return max([1 + depth_of(item[2]) for item in items if item[0] == "times"], default=0)


def error_of_items(items):
    """The first error of the constructors of items, those within a Times before it; None if there is none."""
    for item in items:
        if item[0] == "times":
            found = error_of_items(item[2])
            if found is not None:
                return found
            if item[1] > 10 ** 9:
                return InvalidItem, {"field": "number"}
            if len(item[2]) > 6:
                return TooMany, {"limit": 6}
            if depth_of(item[2]) > 1:
                return TooDeep, {"limit": 2}
    return None


def first_error(items):
    """The first error of the constructors, as (class, fields): those of the items, then that of the body."""
    found = error_of_items(items)
    if found is None and len(items) > 6:
        return TooMany, {"limit": 6}
    return found


def is_body(text):
    """Whether a text is that of a body."""
    return is_written(text) and first_error(items_in(text)) is None


def book_in(lines):
    """The first mode, the rest modes and the texts of bodies of the book with these lines; None if there is none."""
    first = re.fullmatch(f"first ({WORD})", lines[0])
    rest = re.fullmatch(f"rest((?: {WORD})*)", lines[1]) if len(lines) > 1 else None
    if first is None or rest is None:
        return None
    names = rest[1].split()
    bodies = {}
    for line in lines[2:]:
        found = re.fullmatch(f"({WORD}) ({WORD}):( .+)?", line)
        if found is None or not is_body((found[3] or " ")[1:]):
            return None
        bodies[found[1], found[2]] = (found[3] or " ")[1:]
    modes = {first[1], *names, *[mode for mode, _ in bodies]}
    for text in bodies.values():
        modes |= set(re.findall(f"@({WORD})", text))
    in_order = names == sorted(set(names)) and list(bodies) == sorted(bodies) and len(bodies) == len(lines) - 2
    if not in_order or len(modes) > 6 or len({key for _, key in bodies}) > 6:
        return None
    return first[1], tuple(names), bodies


def fault_in_lines(text):
    """The number that InvalidText tells of the text of a book; None if it is the text of a book."""
    lines = text.split("\n")
    if re.fullmatch(f"first {WORD}", lines[0]) is None:
        return 0
    if len(lines) == 1:
        return 1
    for many in range(2, len(lines) + 1):
        if book_in(lines[:many]) is None:
            return many - 1
    return None
