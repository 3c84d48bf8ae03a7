"""Rows and products: what they are, and writing out small ones."""

from braceloops.checks import is_word
from braceloops.errors import InvalidProduct, InvalidRow, TooMany

MOST_WORDS = 2000


def is_row(value):
    """Return whether any value is a row: a non-empty tuple of words."""
    if not isinstance(value, tuple) or len(value) == 0:
        return False
    return all([is_word(word) for word in value])


def is_product(value):
    """Return whether any value is a product: a non-empty tuple of rows."""
    if not isinstance(value, tuple) or len(value) == 0:
        return False
    return all([is_row(row) for row in value])


def check_row(row):
    """Raise InvalidRow if a value is not a row."""
    if not is_row(row):
        raise InvalidRow()


def check_product(product):
    """Raise InvalidProduct if a value is not a product."""
    if not is_product(product):
        raise InvalidProduct()


def size_of(product):
    """Return the number of words of a product that is known to be one."""
    size = 1
    for row in product:
        size = size * len(row)
    return size


def all_words(product):
    """Return the words of a product that is known to be one, if they are not too many."""
    if size_of(product) > MOST_WORDS:
        raise TooMany(MOST_WORDS)
    words = [""]
    for row in product:
        words = [word + other for word in words for other in row]
    return tuple(words)


def words_of_both(row, other):
    """Return the words of a row followed by those of another one, if they are not too many."""
    if len(row) + len(other) > MOST_WORDS:
        raise TooMany(MOST_WORDS)
    return row + other


def multiply(row, *more):
    """Return the product of some rows as a row."""
    check_row(row)
    for other in more:
        check_row(other)
    return all_words((row, *more))


def written_out(product):
    """Return the words of a product as a row."""
    check_product(product)
    return all_words(product)
