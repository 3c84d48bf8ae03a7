"""Values and checks that several test files share."""

import itertools
import unittest


class Endless(list):
    """A list that contains itself."""

    def __init__(self):
        super().__init__()
        self.append(self)


WRONG_WORDS = [
    None, True, False, 0, 1, 1.5, b"a", ["a"], ("a",), {"a"}, {"a": 1}, object(), str, Endless(),
    "A", "aB", "Ab", "a b", " ", "a-b", "-", "a1", "1", "_", "{", "`", "a\n", "\x00",
    "\u00e9", "\u00aa", "\u00df", "\u0430", "\ud800",
]

WRONG_ROWS = [
    None, True, False, 0, 1, 1.5, "", "a", "ab", b"ab", object(), tuple, range(2), Endless(),
    (), [], ["a"], ["a", "b"], {"a"}, {"a": "b"}, iter(("a",)), (("a",),), ((),), (Endless(),),
] + [("a", word) for word in WRONG_WORDS] + [(word, "a") for word in WRONG_WORDS]

WRONG_PRODUCTS = [
    None, True, False, 0, 1, 1.5, "", "a", "ab", object(), tuple, Endless(),
    (), [], [("a",)], {("a",)}, {("a",): 1}, iter((("a",),)), ("a",), ("a", "b"), ((("a",),),),
] + [(("a",), row) for row in WRONG_ROWS] + [(row, ("a",)) for row in WRONG_ROWS]

NO_INTEGERS = [None, True, False, "0", "1", "", 0.0, 1.0, b"1", (0,), [1], object(), Endless()]


def coded(number):
    """Return a word of 20 letters that begins with 18 letters which all these words share."""
    return "a" * 18 + chr(97 + number // 26) + chr(97 + number % 26)


# 40 factors with 60 words of 20 letters each: as large as the document lets a product be.
LARGE_ROW = tuple(coded(number) for number in range(60))
LARGE = (LARGE_ROW,) * 40
LARGE_COUNT = 60 ** 40


def changed(product, factor, place, word):
    """Return a product in which one word of one factor is another one."""
    row = product[factor]
    row = row[:place] + (word,) + row[place + 1:]
    return product[:factor] + (row,) + product[factor + 1:]


def nested_loops(product):
    """Return the words of a product as the nested loops of a shell make them."""
    return ["".join(words) for words in itertools.product(*product)]


class ErrorCase(unittest.TestCase):
    """A test case that asks for the very class of an error."""

    def assert_fails(self, error, call, *given, **named):
        with self.assertRaises(error) as caught:
            call(*given, **named)
        self.assertIs(type(caught.exception), error)
        return caught.exception
