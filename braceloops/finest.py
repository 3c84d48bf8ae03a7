"""The finest form of a product, and what it tells about the right sizes of all its words."""

from math import factorial

from braceloops.checks import check_size
from braceloops.rows import all_words, check_product, check_row, size_of
from braceloops.sizes import conflict, cut
from braceloops.steps import steps_of


def is_run(row):
    """Return whether all steps of a row are equal."""
    check_row(row)
    return are_equal(steps_of(row, "", "")[1:])


def finest(product):
    """Return the finest form of the words of a product."""
    check_product(product)
    beginning, groups = groups_of(product)
    if groups == []:
        return ((beginning,),)
    # Only the first factor of a finest form may have a common beginning.
    groups[0] = ((beginning,),) + groups[0]
    return tuple([all_words(group) for group in groups])


def finest_sizes(product):
    """Return the list of the numbers of words of the factors of the finest form."""
    check_product(product)
    _, groups = groups_of(product)
    return [size_of(group) for group in groups] or [1]


def count_finest(product):
    """Return how many products of factors that cannot be cut have the words of a product."""
    check_product(product)
    _, groups = groups_of(product)
    many = 1
    for group in groups:
        many = many * factorial(len(group))
        for exponent in exponents_of(group):
            many = many // factorial(exponent)
    return many


def is_right_size(product, size):
    """Return whether size is a right size of the row of all words of a product."""
    check_product(product)
    check_size(size)
    _, groups = groups_of(product)
    behind = 1
    for group in groups[::-1]:
        joint = behind * size_of(group)
        if size % joint != 0:
            # The group is cut: a row that cannot be cut allows that only at its end.
            return joint % size == 0 and (size == behind or len(group) > 1)
        behind = joint
    return size == behind


def count_right_sizes(product):
    """Return the number of right sizes of the row of all words of a product."""
    check_product(product)
    _, groups = groups_of(product)
    many = 1
    for group in groups:
        cuts = 1
        for exponent in exponents_of(group):
            cuts = cuts * (exponent + 1)
        # The cut behind the group is counted already.
        many = many + cuts - 1
    return many


def right_quotient(row, other):
    """Return the row whose product with another row is a given one, or None."""
    check_row(row)
    check_row(other)
    # If a word is shorter than other[0], this gives a wrong row, and the product differs.
    quotient = [word[:len(word) - len(other[0])] for word in row[::len(other)]]
    words = [word + ending for word in quotient for ending in other]
    return tuple(quotient) if tuple(words) == row else None


def left_quotient(row, other):
    """Return the row with which the product of another row is a given one, or None."""
    check_row(row)
    check_row(other)
    quotient = [word[len(other[0]):] for word in row[:len(row) // len(other)]]
    words = [word + ending for word in other for ending in quotient]
    return tuple(quotient) if tuple(words) == row else None


def are_equal(values):
    """Return whether all values of a list are equal."""
    return all([value == values[0] for value in values])


def groups_of(product):
    """Return the common beginning of all words of a product, and a list of groups.

    Each group is a product of rows with two words or more, without a common first letter
    and without right sizes but 1 and their own size. The words of the group are a factor
    of the finest form, the first one without the common beginning. A group of several
    rows is a run, so that their sizes are the prime factors of its size.
    """
    groups = []
    beginning = ""
    for row in product[::-1]:
        rest = tuple([word + beginning for word in row])
        while len(rest) > 1:
            # What is cut off at the least size cannot be cut again.
            rest, last = cut(rest, least_cut(rest))
            # A group that grows in front makes no run with the next one if it made none before.
            if groups != [] and make_a_run(last, groups[-1]):
                groups[-1] = (last,) + groups[-1]
            else:
                groups.append((last,))
        beginning = rest[0]
    return (beginning, groups[::-1])


def least_cut(row):
    """Return the least right size but 1 of a row with two words or more."""
    steps = steps_of(row, "", "")
    size = 2
    while conflict(steps, size) is not None:
        size = size + 1
    return size


def make_a_run(row, group):
    """Return whether a row and a group behind it make a run together."""
    # The steps of the last row are those of the group, if it is a run.
    steps = steps_of(group[-1], "", "")[1:]
    first = "".join([other[0] for other in group])
    last = "".join([other[-1] for other in group])
    return are_equal(steps + steps_of(row, last, first)[1:])


def exponents_of(group):
    """Return how often each size occurs among the rows of a group."""
    sizes = [len(row) for row in group]
    return [sizes.count(size) for size in sorted(set(sizes))]
