"""[16]: ascending products."""

import random

from braceloops.errors import InvalidProduct, InvalidWord, NotAscending
from braceloops.far import nth_word
from braceloops.order import first_drop, is_ascending, place_of
from tests.helpers import (
    EMPTY_WORDS, LARGE, LARGE_COUNT, LARGE_ROW, WRONG_PRODUCTS, WRONG_WORDS, ErrorCase, changed,
    coded, nested_loops, plain_drop, random_product, recut,
)

PAIRS = (("a", "b"), ("c", "d"))
OTHER_WORDS = ["", "a", "x", "xx", "xxx", "xxxx", "y", "yx", "zz"]


def ascending_product(chance):
    """Return a product that often is ascending: its rows are, or they are nearly."""
    product = []
    for row in random_product(chance):
        words = sorted(set(row + (chance.choice(["", "x", "xx", "y", "yx"]),)))
        if chance.random() < 0.1:
            chance.shuffle(words)
        product.append(tuple(words))
    return tuple(product)


class FirstDrop(ErrorCase):
    def assert_drop(self, product, expected):
        self.assertEqual(first_drop(product), expected)
        self.assertIs(is_ascending(product), expected is None)

    def test_small_products(self):
        self.assert_drop((("",),), None)
        self.assert_drop((("a",), ("b",)), None)
        self.assert_drop(PAIRS, None)
        self.assert_drop((("a", "b"), ("d", "c")), 1)
        self.assert_drop((("b", "a"), ("c", "d")), 2)
        self.assert_drop((("a", "b", "b"), ("c", "d")), 4)
        self.assert_drop((("a", "b", "c"), ("c", "d", "d")), 2)
        self.assert_drop((("", "a"),), None)
        self.assert_drop((("a", ""),), 1)
        self.assert_drop((("ab", "a"),), 1)

    def test_equal_neighbours_are_a_drop(self):
        self.assert_drop((("", ""),), 1)
        self.assert_drop((("a", "b"), ("x", "x")), 1)
        self.assert_drop((("a", "a"), ("x", "y")), 2)
        self.assert_drop((("", "x"), ("", "x")), 2)
        self.assert_drop((("", "x"), ("x",), ("", "x")), 2)
        self.assert_drop(EMPTY_WORDS, 1)

    def test_what_stands_behind_decides(self):
        self.assert_drop((("a", "ab"), ("c", "d")), 2)
        self.assert_drop((("a", "ac"), ("a", "b")), None)
        self.assert_drop((("a", "ab"), ("x",)), 1)
        self.assert_drop((("ab", "a"), ("x",)), None)
        self.assert_drop((("", "y"), ("", "x")), None)
        self.assert_drop((("", "x"), ("", "y")), 2)
        self.assert_drop((("", "xx"), ("", "x")), None)
        self.assert_drop((("", "xx"), ("", "x", "xx")), 3)

    def test_large_products(self):
        self.assert_drop(LARGE, None)
        self.assert_drop(LARGE + (("a",),) * 3, None)
        for factor in (0, 1, 20, 39):
            for place in (1, 30, 59):
                with self.subTest(factor=factor, place=place):
                    same = changed(LARGE, factor, place, coded(place - 1))
                    self.assert_drop(same, place * 60 ** (39 - factor))
                    less = changed(LARGE, factor, place, coded(0)[:19])
                    self.assert_drop(less, place * 60 ** (39 - factor))
        self.assert_drop((LARGE_ROW[::-1],) + LARGE[1:], 60 ** 39)
        self.assert_drop((("b", "a"),) + LARGE[:20] + (("b", "a"),) + LARGE[:18], 60 ** 18)

    def test_against_all_words(self):
        chance = random.Random(16)
        for _ in range(3000):
            product = chance.choice([random_product, ascending_product])(chance)
            with self.subTest(product):
                drop = plain_drop(nested_loops(product))
                self.assert_drop(product, drop)
                self.assert_drop(recut(chance, product), drop)

    def test_wrong_products(self):
        for call in (first_drop, is_ascending):
            for value in WRONG_PRODUCTS:
                with self.subTest(call.__name__, value=repr(value)):
                    self.assert_fails(InvalidProduct, call, value)


class PlaceOf(ErrorCase):
    def test_small_products(self):
        for word, place in [("ac", 0), ("ad", 1), ("bc", 2), ("bd", 3), ("", None), ("a", None),
                            ("aca", None), ("bb", None), ("bdd", None), ("z", None), ("aa", None)]:
            with self.subTest(word):
                self.assertEqual(place_of(PAIRS, word), place)
        self.assertEqual(place_of((("",),), ""), 0)
        self.assertIsNone(place_of((("",),), "a"))
        self.assertIsNone(place_of((("a",),), ""))
        self.assertEqual(place_of((("ab", "a"), ("x",)), "ax"), 1)

    def test_against_all_words(self):
        chance = random.Random(61)
        ascending = 0
        for _ in range(1500):
            product = ascending_product(chance)
            words = nested_loops(product)
            drop = plain_drop(words)
            ascending += drop is None
            for word in words + OTHER_WORDS:
                with self.subTest(product, word=word):
                    if drop is None:
                        expected = words.index(word) if word in words else None
                        self.assertEqual(place_of(product, word), expected)
                    else:
                        error = self.assert_fails(NotAscending, place_of, product, word)
                        self.assertEqual(error.index, drop)
        self.assertGreater(ascending, 300)

    def test_large_products(self):
        for number in (0, 1, 59, 60, 60 ** 20 + 17, 33 * 60 ** 39 + 5, LARGE_COUNT - 1):
            word = nth_word(LARGE, number)
            with self.subTest(number=number):
                self.assertEqual(place_of(LARGE, word), number)
                self.assertIsNone(place_of(LARGE, word[:-1]))
                self.assertIsNone(place_of(LARGE, word + "a"))
                self.assertIsNone(place_of(LARGE, word[:-2] + "zz"))
        for word in ("", "a", "a" * 799, "b" * 800, "z" * 800, "z"):
            self.assertIsNone(place_of(LARGE, word))

    def test_the_number_of_the_first_drop(self):
        error = self.assert_fails(NotAscending, place_of, EMPTY_WORDS, "")
        self.assertEqual(error.index, 1)
        error = self.assert_fails(NotAscending, place_of, changed(LARGE, 3, 7, coded(6)), "a")
        self.assertEqual(error.index, 7 * 60 ** 36)

    def test_errors_in_their_order(self):
        for value in WRONG_WORDS:
            for product in (PAIRS, EMPTY_WORDS, (("b", "a"),)):
                with self.subTest(product, value=repr(value)):
                    self.assert_fails(InvalidWord, place_of, product, value)
        for value in WRONG_PRODUCTS:
            for word in ("", "a", None, True):
                with self.subTest(repr(value), word=word):
                    self.assert_fails(InvalidProduct, place_of, value, word)
