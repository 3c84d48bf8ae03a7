"""Values and checks that several test files share."""

import itertools
import os.path
import unittest


class Endless(list):
    """A list that contains itself."""

    def __init__(self):
        super().__init__()
        self.append(self)


WRONG_WORDS = [
    None, True, False, 0, 1, 1.5, b"a", ["a"], ("a",), {"a"}, {"a": 1}, object(), str, Endless(),
    "A", "aB", "Ab", "a b", " ", "a-b", "-", "a1", "1", "_", "{", "`", "a\n", "\x00",
    "\u00e9", "\u00aa", "\u00df", "\u0430", "\ud800",
]

WRONG_ROWS = [
    None, True, False, 0, 1, 1.5, "", "a", "ab", b"ab", object(), tuple, range(2), Endless(),
    (), [], ["a"], ["a", "b"], {"a"}, {"a": "b"}, iter(("a",)), (("a",),), ((),), (Endless(),),
] + [("a", word) for word in WRONG_WORDS] + [(word, "a") for word in WRONG_WORDS]

WRONG_PRODUCTS = [
    None, True, False, 0, 1, 1.5, "", "a", "ab", object(), tuple, Endless(),
    (), [], [("a",)], {("a",)}, {("a",): 1}, iter((("a",),)), ("a",), ("a", "b"), ((("a",),),),
] + [(("a",), row) for row in WRONG_ROWS] + [(row, ("a",)) for row in WRONG_ROWS]

WRONG_TEXTS = [value for value in WRONG_WORDS if not isinstance(value, str)] + [
    (), [], ("a", "b"), [""], b"", b"{a,b}", ("{a,b}",), {"a", "b"}, iter("ab"), range(2), tuple,
    "A", "{A,b}", "a b", "{a, b}", " ", "\n", "a\n", "{a,b}\n", "1", "{1,2}", "{a..c}", "$a", "a-b",
    "\\{a,b}", "(a,b)", "[ab]", "a*", "\u00e9", "{\u00e9,a}", "\u0430", "\ud800", "\x00",
]

NO_INTEGERS = [None, True, False, "0", "1", "", 0.0, 1.0, b"1", (0,), [1], object(), Endless()]


def coded(number):
    """Return a word of 20 letters that begins with 18 letters which all these words share."""
    return "a" * 18 + chr(97 + number // 26) + chr(97 + number % 26)


# 40 factors with 60 words of 20 letters each: as large as the document lets a product be.
LARGE_ROW = tuple(coded(number) for number in range(60))
LARGE = (LARGE_ROW,) * 40
LARGE_COUNT = 60 ** 40
# As many equal words as the document lets a product have.
EMPTY_WORDS = (("",) * 60,) * 40


def changed(product, factor, place, word):
    """Return a product in which one word of one factor is another one."""
    row = product[factor]
    row = row[:place] + (word,) + row[place + 1:]
    return product[:factor] + (row,) + product[factor + 1:]


def nested_loops(product):
    """Return the words of a product as the nested loops of a shell make them."""
    return ["".join(words) for words in itertools.product(*product)]


def plain_drop(words):
    """Return the least number of a word that is not greater than the one before it, or None."""
    for at in range(1, len(words)):
        if not words[at] > words[at - 1]:
            return at
    return None


def common_beginning(words):
    return os.path.commonprefix(list(words))


def plain_step(word, other):
    """Return a step with the common beginning as os.path finds it."""
    length = len(common_beginning([word, other]))
    return (word[length:], other[length:])


def plain_steps(words):
    """Return a dict: the number of each word but the first one, and the step to it."""
    return {at: plain_step(words[at - 1], words[at]) for at in range(1, len(words))}


def plain_cuts(row, size):
    """Return all pairs of rows with a row as their product, the second one with size words."""
    found = []
    for length in range(len(common_beginning(row[:size])) + 1):
        behind = tuple(word[length:] for word in row[:size])
        front = tuple(word.removesuffix(behind[0]) for word in row[::size])
        if nested_loops((front, behind)) == list(row):
            found.append((front, behind))
    return found


def plain_sizes(row):
    """Return the right sizes of a row as [8] defines them."""
    return [size for size in range(1, len(row) + 1) if plain_cuts(row, size)]


def run_factors(chance, size):
    """Return factors that together have the words empty, x, xx, ... size in number."""
    factors, stride = [], 1
    while size > 1:
        many = chance.choice([many for many in range(2, size + 1) if size % many == 0])
        factors.append(tuple("x" * (stride * place) for place in range(many)))
        stride, size = stride * many, size // many
    return tuple(factors[::-1]) or (("",),)


def random_row(chance):
    """Return a row that often is a run, or a run with one other word."""
    many = chance.randint(1, 5)
    if chance.random() < 0.4:
        return tuple(chance.choice(["", "x", "y"]) for _ in range(many))
    stride = chance.choice(["", "x", "xx"])
    words = [stride * place for place in range(many)]
    if chance.random() < 0.2:
        words[chance.randrange(many)] += "x"
    return tuple(words)


def random_product(chance):
    return tuple(random_row(chance) for _ in range(chance.randint(1, 4)))


def recut(chance, product):
    """Return a product with the same words: some neighbours have been multiplied."""
    factors = list(product)
    for _ in range(len(product)):
        at = chance.randrange(len(factors))
        joint = factors[at:at + 2]
        if len(joint) == 2 and len(joint[0]) * len(joint[1]) <= 60:
            factors[at:at + 2] = [tuple(nested_loops(joint))]
    return tuple(factors)


class ErrorCase(unittest.TestCase):
    """A test case that asks for the very class of an error."""

    def assert_fails(self, error, call, *given, **named):
        with self.assertRaises(error) as caught:
            call(*given, **named)
        self.assertIs(type(caught.exception), error)
        return caught.exception
