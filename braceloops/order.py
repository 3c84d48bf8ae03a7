"""The order of the words of a product, as Python compares strings."""

from braceloops.checks import check_word
from braceloops.errors import NotAscending
from braceloops.far import word_at
from braceloops.rows import check_product, size_of
from braceloops.steps import levels_of


def is_ascending(product):
    """Return whether each word of a product is less than the next one."""
    return first_drop(product) is None


def first_drop(product):
    """Return the least number of a word that is not greater than the one before it, or None."""
    check_product(product)
    # Each level makes its first steps before the next level, in front of it, makes one.
    for block, steps in levels_of(product):
        for place in range(1, len(steps)):
            left, right = steps[place]
            if left >= right:
                return place * block
    return None


def place_of(product, word):
    """Return the number of a word in an ascending product, or None."""
    check_product(product)
    check_word(word)
    check_ascending(product)
    number = first_from(product, word)
    if number < size_of(product) and word_at(product, number) == word:
        return number
    return None


def check_ascending(product):
    """Raise NotAscending if a product is not ascending."""
    drop = first_drop(product)
    if drop is not None:
        raise NotAscending(drop)


def first_from(product, word):
    """Return how many words of a product that is known to be ascending are less than a word."""
    least = 0
    greatest = size_of(product)
    while least < greatest:
        middle = (least + greatest) // 2
        if word_at(product, middle) < word:
            least = middle + 1
        else:
            greatest = middle
    return least
