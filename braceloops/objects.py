"""Rows and products as objects that never change."""

from braceloops.checks import check_index
from braceloops.errors import NotAFactor, NotARow, NotLoops
from braceloops.far import nth_word
from braceloops.finest import right_quotient
from braceloops.rows import all_words, check_product, check_row, words_of_both
from braceloops.steps import same_words


class Row:
    """A row with operators."""

    def __init__(self, words):
        check_row(words)
        self._words = words

    @property
    def words(self):
        """The row as a tuple."""
        return self._words

    def __mul__(self, other):
        check_operand(other)
        return Row(all_words((self._words, other._words)))

    def __add__(self, other):
        check_operand(other)
        return Row(words_of_both(self._words, other._words))

    def __floordiv__(self, other):
        check_operand(other)
        quotient = right_quotient(self._words, other._words)
        if quotient is None:
            raise NotAFactor()
        return Row(quotient)

    def __eq__(self, other):
        return isinstance(other, Row) and self._words == other._words

    def __len__(self):
        return len(self._words)

    def __contains__(self, x):
        # A value that is no string can still be equal to one, by its own __eq__.
        return isinstance(x, str) and x in self._words

    def __getitem__(self, at):
        check_index(at, 0, len(self._words) - 1)
        return self._words[at]

    def __iter__(self):
        raise TypeError("a Row object is not iterated over: take its words")


class Loops:
    """A product that is called with the number of a word."""

    def __init__(self, product):
        check_product(product)
        self._factors = product

    @property
    def factors(self):
        """The product as a tuple of rows."""
        return self._factors

    def __call__(self, index):
        return nth_word(self._factors, index)

    def __add__(self, other):
        if not isinstance(other, Loops):
            raise NotLoops()
        return Loops(self._factors + other._factors)

    def __eq__(self, other):
        return isinstance(other, Loops) and same_words(self._factors, other._factors)


def check_operand(value):
    """Raise NotARow if a value is not a Row object."""
    if not isinstance(value, Row):
        raise NotARow()
