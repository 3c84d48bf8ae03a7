"""Steps from word to word, and the first difference of two products."""

from math import lcm

from braceloops.checks import check_index, check_word
from braceloops.far import word_at
from braceloops.rows import check_product, check_row, size_of


def step(word, other):
    """Return the step from a word to another one."""
    check_word(word)
    check_word(other)
    return step_between(word, other)


def step_at(product, index):
    """Return the step from the word with the number index - 1 to the next one."""
    check_product(product)
    check_index(index, 1, size_of(product) - 1)
    return step_between(word_at(product, index - 1), word_at(product, index))


def first_difference(product, other):
    """Return the least number at which two products differ, or None."""
    check_product(product)
    check_product(other)
    if word_at(product, 0) != word_at(other, 0):
        return 0
    size = size_of(product)
    other_size = size_of(other)
    least = min(size, other_size)
    # Behind equal words, equal steps lead to equal words, and different steps to different ones.
    other_levels = levels_of(other)
    for level in levels_of(product):
        for other_level in other_levels:
            least = first_clash(level, other_level, least)
    if least == size and least == other_size:
        return None
    return least


def same_words(product, other):
    """Return whether two products have the same words, in whatever factors."""
    return first_difference(product, other) is None


def commute(row, other):
    """Return whether the products of two rows in both orders are equal."""
    check_row(row)
    check_row(other)
    return same_words((row, other), (other, row))


def common_length(word, other):
    """Return the length of the longest common beginning of two words."""
    least = 0
    greatest = min(len(word), len(other))
    while least < greatest:
        middle = (least + greatest + 1) // 2
        if word[:middle] == other[:middle]:
            least = middle
        else:
            greatest = middle - 1
    return least


def step_between(word, other):
    """Return the step between two values that are known to be words."""
    length = common_length(word, other)
    return (word[length:], other[length:])


def steps_of(row, last, first):
    """Return the list of the steps from each word of a row + last to the next one + first.

    The item with a number is the step to the word with that number; the item 0 is not used.
    """
    steps = [None]
    for place in range(1, len(row)):
        steps.append(step_between(row[place - 1] + last, row[place] + first))
    return steps


def levels_of(product):
    """Return a tuple (block, steps) for each factor, the last factor first.

    The factors behind a factor have block words together. So a factor goes on to its
    next word just before each multiple of block that the factors in front of it leave
    to it. The item of steps with the number of that word is the step made there.
    """
    levels = []
    block = 1
    first = ""
    last = ""
    for row in product[::-1]:
        # The factors behind go from their last words back to their first ones.
        levels.append((block, steps_of(row, last, first)))
        block = block * len(row)
        first = row[0] + first
        last = row[-1] + last
    return levels


def first_clash(level, other, limit):
    """Return the least number below limit to which two levels make different steps.

    Return limit if there is none.
    """
    block, steps = level
    other_block, other_steps = other
    joint = lcm(block, other_block)
    stride = joint // block % len(steps)
    other_stride = joint // other_block % len(other_steps)
    # Let the places repeat after p and after q turns, p <= q. If no turn before 2 * q
    # clashes, the steps compared at turns with the same remainder modulo gcd(p, q) are all
    # equal, since a turn r and the turn q + r meet the same step. So no later turn clashes.
    turns = 2 * max(len(steps), len(other_steps))
    for turn in range(1, min(turns, (limit - 1) // joint + 1)):
        place = turn * stride % len(steps)
        other_place = turn * other_stride % len(other_steps)
        if place > 0 and other_place > 0 and steps[place] != other_steps[other_place]:
            return turn * joint
    return limit
