"""The errors of the package."""


class BraceError(ValueError):
    """The base class of all errors of the package."""


class InvalidWord(BraceError):
    """An argument is not a word."""


class InvalidRow(BraceError):
    """An argument is not a row."""


class InvalidProduct(BraceError):
    """An argument is not a product."""


class InvalidIndex(BraceError):
    """An argument is not an integer in the range of the numbers that are meant."""


class InvalidSize(BraceError):
    """An argument is not an integer from 1 on."""


class InvalidText(BraceError):
    """An argument is not a brace text."""


class NotARow(BraceError):
    """The other operand is not a Row object."""


class NotLoops(BraceError):
    """The other operand is not a Loops object."""


class NotAFactor(BraceError):
    """A row cannot be divided by another one."""


class LastFactor(BraceError):
    """The only factor of a product cannot be dropped."""


class NothingToUndo(BraceError):
    """There is no call that can be taken back."""


class TooMany(BraceError):
    """There would be more words than the limit."""

    def __init__(self, limit):
        self.limit = limit


class NotASize(BraceError):
    """A number is not a right size of a row."""

    def __init__(self, size):
        self.size = size


class NotAscending(BraceError):
    """The word with the number index is not greater than the one before it."""

    def __init__(self, index):
        self.index = index
