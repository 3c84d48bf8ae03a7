"""Where a word occurs in a product, and whether some word occurs twice."""

from braceloops.checks import check_index, check_word
from braceloops.order import first_from
from braceloops.rows import check_product, size_of
from braceloops.steps import step_between


def count_of(product, word):
    """Return how often a word occurs among the words of a product."""
    check_product(product)
    check_word(word)
    return ways_of(product, word)[0].get(0, 0)


def nth_place(product, word, index):
    """Return the number of the occurrence of a word with an index, counted from 0."""
    check_product(product)
    check_word(word)
    ways = ways_of(product, word)
    check_index(index, 0, ways[0].get(0, 0) - 1)
    return number_at(product, word, ways, index)


def places(product, word):
    """Generate the numbers of all occurrences of a word in ascending order."""
    check_product(product)
    check_word(word)
    ways = ways_of(product, word)
    for index in range(ways[0].get(0, 0)):
        yield number_at(product, word, ways, index)


def has_double(product):
    """Return whether some word occurs twice or more among the words of a product."""
    return double(product) is not None


def double(product):
    """Return the numbers of two equal words of a product, the less one first, or None.

    Beginnings of two words that differ in a factor are made longer, always the one that
    is behind, until both are equal and use the same factors.
    """
    check_product(product)
    tables = [table_of(row) for row in product]
    waiting = first_pairs(tables)
    seen = {}
    while waiting:
        behind, ahead = waiting.pop()
        _, used, number = behind
        rest, other_used, other_number = ahead
        if rest == "" and used == other_used:
            many = size_of(product[used:])
            return (number * many, other_number * many)
        # What can follow does not depend on the numbers.
        state = (used, rest, other_used)
        if used < len(product) and state not in seen:
            seen[state] = True
            waiting.extend(next_pairs(behind, ahead, tables[used]))
    return None


def ways_of(product, word):
    """Return a list of dicts, one for each factor and one for the end of the product.

    A dict has, for the places in the word at which the words of this factor and those
    behind it together can start to make its rest, in how many ways they do.
    """
    ways = [{len(word): 1}]
    for row in product[::-1]:
        ways.append(ways_before(row, word, ways[-1]))
    return ways[::-1]


def ways_before(row, word, behind):
    """Return the dict of a factor from the one of the factor behind it."""
    found = {}
    for part in row:
        for end in behind:
            start = end - len(part)
            if start >= 0 and word[start:end] == part:
                found[start] = found.get(start, 0) + behind[end]
    return found


def number_at(product, word, ways, index):
    """Return the number of the occurrence with an index that is known to be right."""
    number = 0
    start = 0
    rest = index
    for row, behind in zip(product, ways[1:]):
        place, rest = choice(row, word, start, behind, rest)
        number = number * len(row) + place
        start = start + len(row[place])
    return number


def choice(row, word, start, behind, index):
    """Return the place in a row for the occurrence with an index, and the index behind it."""
    rest = index
    for place in range(len(row)):
        end = start + len(row[place])
        many = behind.get(end, 0)
        if word[start:end] == row[place]:
            if rest < many:
                break
            rest = rest - many
    return (place, rest)


def table_of(row):
    """Return a row, a dict of the first places of its words, and these words in order."""
    firsts = {}
    for place in range(len(row)):
        firsts.setdefault(row[place], place)
    return (row, firsts, tuple(sorted(firsts)))


def pair_of(beginning, other):
    """Return the tuple of the beginnings of two words, the one that is behind first.

    A beginning is a tuple: its rest behind the longest common beginning of both, how many
    factors it uses, and its number among all words of these factors. One rest is empty.
    """
    return tuple(sorted([beginning, other]))


def first_pairs(tables):
    """Return the list of pairs that differ for the first time in their last factor."""
    pairs = []
    for at in range(len(tables)):
        pairs.extend(pairs_in(tables[at], at + 1))
    return pairs


def pairs_in(table, used):
    """Return the pairs of places in a row with equal words, or of words that begin alike.

    For each pair of words one pair of places is enough.
    """
    row, firsts, words = table
    pairs = []
    for place in range(len(row)):
        if firsts[row[place]] < place:
            pairs.append(pair_of(("", used, firsts[row[place]]), ("", used, place)))
    for word in words:
        for length in range(len(word)):
            if word[:length] in firsts:
                beginning = ("", used, firsts[word[:length]])
                pairs.append(pair_of(beginning, (word[length:], used, firsts[word])))
    return pairs


def next_pairs(behind, ahead, table):
    """Return the pairs in which the beginning that is behind uses one more factor."""
    row, firsts, _ = table
    _, used, number = behind
    rest, other_used, other_number = ahead
    pairs = []
    for word in fitting_words(table, rest):
        left, right = step_between(word, rest)
        longer = (left, used + 1, number * len(row) + firsts[word])
        pairs.append(pair_of(longer, (right, other_used, other_number)))
    return pairs


def fitting_words(table, rest):
    """Return the different words of a row that rest begins with or that begin with rest."""
    _, firsts, words = table
    found = [rest[:length] for length in range(len(rest)) if rest[:length] in firsts]
    at = first_from((words,), rest)
    # In their order, the words that begin with rest follow one another.
    while at < len(words) and words[at].startswith(rest):
        found.append(words[at])
        at = at + 1
    return found
