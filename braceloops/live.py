"""A product that is changed factor by factor, and back again."""

from braceloops.errors import LastFactor, NothingToUndo
from braceloops.finest import finest
from braceloops.rows import check_product, check_row, is_product, size_of
from braceloops.texts import parse_product

BLOCK = 10 ** 60


class LiveProduct:
    """A product, and the calls that have changed it.

    The kinds of live products differ in what _check_kind does not let in.
    """

    LETTERS = "abcdefghijklmnopqrstuvwxyz"

    def __init__(self, factors=(("",),)):
        check_product(factors)
        self._check_kind(factors)
        self._factors = factors
        # For each call that can be taken back, the latest one last: its name, the product before.
        self._calls = []

    @classmethod
    def read(cls, text):
        """Return an object of this class from a brace text."""
        return cls(parse_product(text))

    @staticmethod
    def is_valid(value):
        """Return whether any value is a product."""
        return is_product(value)

    @property
    def factors_now(self):
        """The product as a tuple of rows."""
        return self._factors

    @property
    def word_count(self):
        """The number of words of the product."""
        return size_of(self._factors)

    def put_last(self, row):
        """Put a factor behind the others."""
        check_row(row)
        self._change("put_last", self._factors + (row,))

    def put_first(self, row):
        """Put a factor in front of the others."""
        check_row(row)
        self._change("put_first", (row,) + self._factors)

    def drop(self):
        """Take the last factor off and return it."""
        if len(self._factors) == 1:
            raise LastFactor()
        last = self._factors[-1]
        self._change("drop", self._factors[:-1])
        return last

    def undo(self):
        """Take the latest call back that is not yet taken back, and return its name."""
        if len(self._calls) == 0:
            raise NothingToUndo()
        name, factors = self._calls.pop()
        self._factors = factors
        return name

    def try_rows(self, *rows):
        """Return the list of the numbers of words as the rows are put behind one after another."""
        factors = self._factors
        counts = []
        for row in rows:
            check_row(row)
            factors = factors + (row,)
            self._check_kind(factors)
            counts.append(size_of(factors))
        return counts

    def told(self):
        """Return the list of what there is to tell about the product."""
        return [f"factors {len(self._factors)}", f"words {digits_of(self.word_count)}"]

    def finest_form(self):
        """Return the finest form of the words of the product."""
        return finest(self._factors)

    def __len__(self):
        return len(self._calls)

    def _check_kind(self, factors):
        """Raise an error if this kind of live product cannot be a given product."""

    def _change(self, name, factors):
        """Take a product over, if this kind can, and keep the call for undo."""
        self._check_kind(factors)
        self._calls.append((name, self._factors))
        self._factors = factors


def digits_of(number):
    """Return the decimal digits of an integer from 0 on."""
    # Python refuses to write out an integer of thousands of digits at once.
    parts = []
    rest = number
    while rest >= BLOCK:
        rest, part = divmod(rest, BLOCK)
        parts.append(str(part).zfill(60))
    parts.append(str(rest))
    return "".join(parts[::-1])
