"""Checks of plain values: words, integers, lists of words."""

# The most words that a list of words may have.
WORDS = 1000


def is_word(value):
    """Whether a value is a string of 1 to 8 letters from a to z."""
    if not isinstance(value, str) or not 1 <= len(value) <= 8:
        return False
    return value.isascii() and value.isalpha() and value.islower()


def are_all_words(value):
    """Whether a value is a list, or a tuple, of words."""
    return isinstance(value, (list, tuple)) and all([is_word(word) for word in value])


def are_words(value):
    """Whether a value is a list, or a tuple, of at most 1,000 words."""
    return isinstance(value, (list, tuple)) and len(value) <= WORDS and are_all_words(value)


def is_pair_of_words(value):
    """Whether a value is a tuple of two words."""
    return isinstance(value, tuple) and len(value) == 2 and are_all_words(value)


def is_whole(value):
    """Whether a value is an integer; True and False are none."""
    return isinstance(value, int) and not isinstance(value, bool)


def is_within(value, least, most):
    """Whether a value is an integer from the least to the most."""
    return is_whole(value) and least <= value <= most
