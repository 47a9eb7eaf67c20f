"""Desks: a site is edited and asked by lines of text."""

from onestroke.beginnings import beginnings_of
from onestroke.bodies import Body
from onestroke.charts import chart_of
from onestroke.errors import CommandError, InvalidText, OutOfRange
from onestroke.pressing import counts, endless_row
from onestroke.smallest import smallest_machine
from onestroke.systems import check_state
from onestroke.values import are_all_words, is_word

# The most digits of an index.
DIGITS = 900
# What is answered where there is nothing to tell.
NONE = "-"
# The lines of one word.
SINGLE = ("undo", "redo", "book", "smallest", "endless")


class Desk:
    """A site that answers lines."""

    def __init__(self, site):
        self.site = site

    def run(self, line):
        """The answer of a line."""
        order = order_of(line)
        if order is None:
            raise CommandError(line)
        if order[0] == "try":
            return self.site.tried(lambda site: answer_of(site, order[1]))
        return answer_of(self.site, order)

    def __call__(self, line):
        return self.run(line)


def answers(site, lines):
    """The list of the answers of a new desk to a list of lines, as in an attempt."""
    desk = Desk(site)
    return site.attempt(lambda held: [desk.run(line) for line in lines])


def order_of(line):
    """What a line orders: a tuple of its name and what it tells; None if it is no such line."""
    if not isinstance(line, str):
        return None
    name, _, tail = line.partition(" ")
    if name != "try":
        return plain_order(line, name, tail)
    inner = tail.partition(" ")[0]
    order = None if inner == "try" else plain_order(tail, inner, tail.partition(" ")[2])
    return None if order is None else ("try", order)


def plain_order(line, name, tail):
    """The same for a line that is no try, with its name and what stands behind that."""
    if line in SINGLE:
        return (line,)
    words = tail.split(" ")
    if name == "set":
        return setting_of(tail)
    if name == "drop" and len(words) == 2 and are_all_words(words):
        return name, words[0], words[1]
    if name in ("press", "counts") and are_all_words(words):
        return name, words
    if name == "certain" and is_word(tail):
        return name, tail
    if name == "command" and is_index(words[0]) and len(words) > 1 and are_all_words(words[1:]):
        return name, int(words[0]), words[1:]
    return None


def setting_of(tail):
    """What is set: the mode, the key and the body; None if it is not written so. Errors of the body are raised."""
    head, colon, text = tail.partition(":")
    words = head.split(" ")
    if colon == "" or len(words) != 2 or not are_all_words(words):
        return None
    if text == "":
        return "set", words[0], words[1], Body()
    if text[0] != " " or text == " ":
        return None
    try:
        return "set", words[0], words[1], Body.read(text[1:])
    except InvalidText:
        return None


def is_index(text):
    """Whether a text is a decimal integer from 0 on."""
    if not 1 <= len(text) <= DIGITS or not text.isascii() or not text.isdigit():
        return False
    return text == "0" or text[0] != "0"


def answer_of(site, order):
    """The answer of a site to an order that is no try."""
    name = order[0]
    if name in ("set", "drop", "undo", "redo"):
        edit(site, order)
        return "ok"
    if name == "book":
        return site.text()
    if name == "press":
        outcome = site(order[1])
        return f"ends {outcome.state} {outcome.row.size}" if outcome.is_end else "never"
    if name == "command":
        return command_in(site(order[2]), order[1])
    if name == "counts":
        return "yes" if counts(site.book, order[1]) else "no"
    if name == "endless":
        pressed = endless_row(site.book)
        return NONE if pressed is None else " ".join(pressed)
    return certain_answer(site.book, order)


def edit(site, order):
    """Does an edit of a site."""
    if order[0] == "set":
        site[order[1], order[2]] = order[3]
    elif order[0] == "drop":
        site.take(order[1], order[2])
    elif order[0] == "undo":
        site.undo()
    else:
        site.redo()


def command_in(outcome, index):
    """The command of an outcome with an index."""
    try:
        return outcome.command_at(index)
    except OutOfRange:
        return NONE


def certain_answer(book, order):
    """How many commands are certain in a mode, or how many numbers the smallest book has."""
    if order[0] == "certain":
        check_state(book, order[1])
    beginnings = beginnings_of(chart_of(book))
    if order[0] == "smallest":
        return str(len(smallest_machine(beginnings).nearest))
    return str(beginnings.sizes[order[1]]) if order[1] in beginnings.sizes else NONE
