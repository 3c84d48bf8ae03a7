"""Right sizes: how many words the last factors of a row can have."""

from braceloops.checks import check_size
from braceloops.errors import NotASize
from braceloops.rows import check_row
from braceloops.steps import common_length, steps_of


def right_sizes(row):
    """Return the list of the right sizes of a row in ascending order."""
    check_row(row)
    steps = steps_of(row, "", "")
    return [size for size in range(1, len(row) + 1) if conflict(steps, size) is None]


def split(row, size):
    """Return the two rows whose product a row is; the second one has size words."""
    check_row(row)
    check_size(size)
    if conflict(steps_of(row, "", ""), size) is not None:
        raise NotASize(size)
    return cut(row, size)


def why_not(row, size):
    """Return the numbers of two words that keep size from being right, or None."""
    check_row(row)
    check_size(size)
    return conflict(steps_of(row, "", ""), size)


def conflict(steps, size):
    """Return what why_not returns for a row with given steps, as steps_of lists them."""
    if len(steps) % size != 0:
        return (0, 0)
    for number in range(size + 1, len(steps)):
        # The steps before this one with its remainder are equal: the first one stands for all.
        first = number % size
        if first > 0 and steps[number] != steps[first]:
            return (number, first)
    return None


def cut(row, size):
    """Return the same as split for a size that is known to be right."""
    length = common_beginning(row[:size])
    behind = tuple([word[length:] for word in row[:size]])
    front = tuple([word[:len(word) - len(behind[0])] for word in row[::size]])
    return (front, behind)


def common_beginning(row):
    """Return how many letters all words of a row have in common at their beginnings."""
    return min([common_length(row[0], word) for word in row])
