"""The errors of the package: each one a direct subclass of one of Python's own."""


class InvalidWords(ValueError):
    """A value is not a list of at most 1,000 words, or not the letters of a row."""

    def __init__(self, value):
        self.value = value


class InvalidItem(ValueError):
    """An argument of an item is not what it must be."""

    def __init__(self, field):
        self.field = field


class InvalidText(ValueError):
    """A text is not written as the document tells, from this place on."""

    def __init__(self, index):
        self.index = index


class InvalidMode(ValueError):
    """A value is not a mode, or not a list of modes."""

    def __init__(self, value):
        self.value = value


class InvalidStroke(ValueError):
    """A value is not a pair of a mode and a key."""

    def __init__(self, value):
        self.value = value


class InvalidBodies(ValueError):
    """A value is not a dict from pairs of a mode and a key to bodies."""

    def __init__(self, value):
        self.value = value


class InvalidPattern(ValueError):
    """A value is not a list of 1 to 8 words."""

    def __init__(self, value):
        self.value = value


class InvalidPressed(ValueError):
    """A value is neither a row nor a list of at most 1,000 words."""

    def __init__(self, value):
        self.value = value


class NotBeginning(ValueError):
    """A row does not start with the other one."""


class Clash(ValueError):
    """Two books have different bodies for a mode and a key."""

    def __init__(self, mode, key):
        self.mode = mode
        self.key = key


class CommandError(ValueError):
    """A value is not a line that a desk answers."""

    def __init__(self, value):
        self.value = value


class NotAnItem(TypeError):
    """The argument at this index is not an item."""

    def __init__(self, index):
        self.index = index


class NotABody(TypeError):
    """A value is not a body."""

    def __init__(self, value):
        self.value = value


class NotABook(TypeError):
    """The argument at this index is not a book."""

    def __init__(self, index):
        self.index = index


class OutOfRange(LookupError):
    """A value is not an integer of the range that is asked for."""

    def __init__(self, value):
        self.value = value


class UnknownStroke(LookupError):
    """A value is not a pair of a mode and a key with a body."""

    def __init__(self, value):
        self.value = value


class UnknownState(LookupError):
    """A value is not a state of the system."""

    def __init__(self, value):
        self.value = value


class TooMany(OverflowError):
    """There are more than the limit."""

    def __init__(self, limit):
        self.limit = limit


class TooFew(OverflowError):
    """There are fewer than the limit."""

    def __init__(self, limit):
        self.limit = limit


class TooDeep(OverflowError):
    """More than the limit are within one another."""

    def __init__(self, limit):
        self.limit = limit


class TooLong(OverflowError):
    """A row would have more words than the limit."""

    def __init__(self, limit):
        self.limit = limit


class NeverEnds(RuntimeError):
    """The stroke of a key never ends."""

    def __init__(self, key):
        self.key = key


class Unlike(RuntimeError):
    """A pressed row parts the book from what it must be like."""

    def __init__(self, pressed):
        self.pressed = pressed


class Endless(RuntimeError):
    """A pressed row never ends."""

    def __init__(self, pressed):
        self.pressed = pressed


class TooBig(RuntimeError):
    """The stroke of a key in a mode has too many commands."""

    def __init__(self, mode, key):
        self.mode = mode
        self.key = key


class InTrial(RuntimeError):
    """There is no undoing and redoing within a trial."""
