"""Words of a product by their numbers, without writing the product out."""

from braceloops.checks import check_index
from braceloops.rows import check_product, size_of


def count_words(product):
    """Return the number of words of a product."""
    check_product(product)
    return size_of(product)


def nth_word(product, index):
    """Return the word of a product with a number, counted from 0."""
    check_product(product)
    check_index(index, 0, size_of(product) - 1)
    return word_at(product, index)


def total_letters(product):
    """Return the number of letters of all words of a product together."""
    check_product(product)
    size = size_of(product)
    # Each word of a factor stands in as many words of the product as the other factors have.
    return sum([size // len(row) * letters_of(row) for row in product])


def words_from(product, first):
    """Generate the words of a product from the one with the number first on."""
    check_product(product)
    size = size_of(product)
    check_index(first, 0, size - 1)
    for number in range(first, size):
        yield word_at(product, number)


def word_at(product, number):
    """Return the word with a number that is known to occur."""
    parts = []
    rest = number
    for row in product[::-1]:
        rest, place = divmod(rest, len(row))
        parts.append(row[place])
    return "".join(parts[::-1])


def letters_of(row):
    """Return the number of letters of all words of a row together."""
    return sum([len(word) for word in row])
