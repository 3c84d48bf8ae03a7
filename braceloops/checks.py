"""The checks of words and integers that several modules share."""

from braceloops.errors import InvalidIndex, InvalidSize, InvalidWord


def is_word(value):
    """Return whether any value is a word."""
    if not isinstance(value, str):
        return False
    return value == "" or (value.isascii() and value.isalpha() and value.islower())


def is_integer(value):
    """Return whether any value is an integer; True and False are none."""
    return isinstance(value, int) and not isinstance(value, bool)


def check_word(word):
    """Raise InvalidWord if a value is not a word."""
    if not is_word(word):
        raise InvalidWord()


def check_index(index, least, greatest):
    """Raise InvalidIndex if a value is not an integer from least to greatest."""
    if not is_integer(index) or index < least or index > greatest:
        raise InvalidIndex()


def check_most(most):
    """Raise InvalidIndex if a value is not an integer from 1 on."""
    if not is_integer(most) or most < 1:
        raise InvalidIndex()


def check_size(size):
    """Raise InvalidSize if a value is not an integer from 1 on."""
    if not is_integer(size) or size < 1:
        raise InvalidSize()
