"""Reading: how the texts of bodies are written, sign by sign.

The text of a body is read by a small machine. What it expects next is told by
the last sign and by how many parentheses are open. Wherever it stands, some
text of a body goes on from there; so the first sign that it cannot read tells
the longest beginning of such a text.
"""

SMALL = "abcdefghijklmnopqrstuvwxyz"
DIGITS = "0123456789"
# The most letters of a word and the most digits of a number.
LETTERS = 8
FIGURES = 10
# What stands ahead of the next sign.
OPEN = "opened"
SPACE = "space"
SIGN = "sign"
WORD = "word"
NUMBER = "number"
CLOSED = "closed"


def after_sign(sign, last, long, depth):
    """What the sign is, with what stands ahead of it: a last thing of so many signs; None if it cannot stand here."""
    if sign in SMALL:
        if last in (OPEN, SPACE, SIGN) or last == WORD and long < LETTERS:
            return WORD
    elif sign in DIGITS:
        if last in (OPEN, SPACE) or last == NUMBER and 0 < long < FIGURES:
            return NUMBER
    elif sign in "!@":
        if last in (OPEN, SPACE):
            return SIGN
    elif sign == "(":
        if last == NUMBER:
            return OPEN
    elif sign == ")":
        if depth > 0 and last in (OPEN, WORD, CLOSED):
            return CLOSED
    elif sign == " ":
        if last in (WORD, CLOSED):
            return SPACE
    return None


def fault_in(text):
    """The length of the longest beginning with which a text of a body begins; None if the text is one itself."""
    last = OPEN
    # How many letters or digits the last thing has; 0 for the number 0, as no digit may follow it.
    long = 0
    depth = 0
    for index, sign in enumerate(text):
        found = after_sign(sign, last, long, depth)
        if found is None:
            return index
        if found == OPEN:
            depth = depth + 1
        elif found == CLOSED:
            depth = depth - 1
        elif sign == "0" and last != NUMBER:
            long = 0
        else:
            long = long + 1 if found == last else 1
        last = found
    if depth > 0 or last in (SPACE, SIGN, NUMBER):
        return len(text)
    return None


def tokens_of(text):
    """The words with their signs, the numbers with their parentheses, and the closing parentheses of a text."""
    return text.replace(")", " )").replace("(", "( ").split()
