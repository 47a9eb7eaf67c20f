"""Items and bodies: what a key stands for in a mode."""

from onestroke.errors import InvalidItem, InvalidText, NotAnItem, OutOfRange, TooDeep, TooMany
from onestroke.limits import DEPTH, ITEMS, NUMBER
from onestroke.reading import fault_in, tokens_of
from onestroke.values import is_within, is_word


class Item:
    """What bodies are made of: a Say, a Press, a Go or a Times."""


class Say(Item):
    """Adds a command."""

    def __init__(self, command):
        if not is_word(command):
            raise InvalidItem("command")
        self.command = command

    def __eq__(self, other):
        return isinstance(other, Say) and self.command == other.command

    def text(self):
        """How the item is written."""
        return f"!{self.command}"


class Press(Item):
    """Does the stroke of a key in the mode that is then."""

    def __init__(self, key):
        if not is_word(key):
            raise InvalidItem("key")
        self.key = key

    def __eq__(self, other):
        return isinstance(other, Press) and self.key == other.key

    def text(self):
        """How the item is written."""
        return self.key


class Go(Item):
    """Changes the mode."""

    def __init__(self, mode):
        if not is_word(mode):
            raise InvalidItem("mode")
        self.mode = mode

    def __eq__(self, other):
        return isinstance(other, Go) and self.mode == other.mode

    def text(self):
        """How the item is written."""
        return f"@{self.mode}"


class Times(Item):
    """Does a body so many times."""

    def __init__(self, number, *items):
        if not is_within(number, 0, NUMBER):
            raise InvalidItem("number")
        check_items(items, DEPTH - 1)
        self.number = number
        self.body = Body(*items)
        # Kept, as the texts of items within one another would call each other.
        self._text = f"{number}({self.body.text()})"

    @classmethod
    def of(cls, number, items):
        """The same with a list of items."""
        return cls(number, *items)

    def __eq__(self, other):
        return isinstance(other, Times) and self.number == other.number and self.body == other.body

    def text(self):
        """How the item is written."""
        return self._text


class Body:
    """A list of items."""

    def __init__(self, *items):
        check_items(items, DEPTH)
        self._entries = items
        self._depth = depth_of(items)
        self._text = " ".join([item.text() for item in items])

    @classmethod
    def of(cls, items):
        """The body of a list of items."""
        return cls(*items)

    @classmethod
    def read(cls, text):
        """The body with this text."""
        items = items_of(text)
        return cls(*items)

    @property
    def entries(self):
        """The tuple of the items."""
        return self._entries

    @property
    def depth(self):
        """How many Times are within one another."""
        return self._depth

    def __len__(self):
        return len(self._entries)

    def __getitem__(self, index):
        if not is_within(index, 0, len(self._entries) - 1):
            raise OutOfRange(index)
        return self._entries[index]

    def __iter__(self):
        raise TypeError("a body is not iterated over, but its entries")

    def __eq__(self, other):
        return isinstance(other, Body) and self._entries == other._entries

    def text(self):
        """How the body is written."""
        return self._text


def depth_of(items):
    """How many Times are within one another among the items."""
    return max([1 + item.body.depth for item in items if isinstance(item, Times)], default=0)


def check_items(items, depth):
    """The errors of a body whose items have this depth at most."""
    for index, item in enumerate(items):
        if not isinstance(item, (Say, Press, Go, Times)):
            raise NotAnItem(index)
    if len(items) > ITEMS:
        raise TooMany(ITEMS)
    if depth_of(items) > depth:
        raise TooDeep(DEPTH)


def item_of(token):
    """The item with this text, which is not a Times."""
    if token[0] == "!":
        return Say(token[1:])
    if token[0] == "@":
        return Go(token[1:])
    return Press(token)


def items_of(text):
    """The items of the body with this text."""
    if not isinstance(text, str):
        raise InvalidText(0)
    index = fault_in(text)
    if index is not None:
        raise InvalidText(index)
    items = []
    # The numbers whose parentheses are open, each with the items ahead of it.
    around = []
    for token in tokens_of(text):
        if token == ")":
            number, before = around.pop()
            before.append(Times(number, *items))
            items = before
        elif token[-1] == "(":
            around.append((int(token[:-1]), items))
            items = []
        else:
            items.append(item_of(token))
    return items
