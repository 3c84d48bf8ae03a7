"""[5] and [11]: words by their numbers."""

import inspect
import itertools

from braceloops.errors import InvalidIndex, InvalidProduct
from braceloops.far import count_words, nth_word, total_letters, words_from
from tests.helpers import (
    LARGE, LARGE_COUNT, LARGE_ROW, NO_INTEGERS, WRONG_PRODUCTS, ErrorCase, coded, nested_loops,
)

SMALL = [
    (("",),),
    (("abc",),),
    (("", ""),),
    (("a", "b"), ("c", "d")),
    (("b", "", "b"), ("x",), ("", "yy")),
    (("a",), ("b",), ("c", "d", "e")),
    (("a", "ab"), ("bc", "c"), ("", "c"), ("d", "d")),
]
OUTSIDE = [-1, -10 ** 100, 10 ** 100]


def first_values(generator, many):
    return list(itertools.islice(generator, many))


class CountWords(ErrorCase):
    def test_small_products(self):
        for product in SMALL:
            with self.subTest(product):
                self.assertEqual(count_words(product), len(nested_loops(product)))

    def test_large_products(self):
        self.assertEqual(count_words(LARGE), LARGE_COUNT)
        self.assertEqual(count_words((("a",) * 59, ("b",)) + LARGE), 59 * LARGE_COUNT)

    def test_wrong_products(self):
        for value in WRONG_PRODUCTS:
            with self.subTest(repr(value)):
                self.assert_fails(InvalidProduct, count_words, value)


class NthWord(ErrorCase):
    def test_small_products(self):
        for product in SMALL:
            for index, word in enumerate(nested_loops(product)):
                with self.subTest(product, index=index):
                    self.assertEqual(nth_word(product, index), word)

    def test_large_products(self):
        self.assertEqual(nth_word(LARGE, 0), coded(0) * 40)
        self.assertEqual(nth_word(LARGE, 1), coded(0) * 39 + coded(1))
        self.assertEqual(nth_word(LARGE, 60), coded(0) * 38 + coded(1) + coded(0))
        self.assertEqual(nth_word(LARGE, 7 * 60 ** 39 + 59), coded(7) + coded(0) * 38 + coded(59))
        self.assertEqual(nth_word(LARGE, LARGE_COUNT - 1), coded(59) * 40)

    def test_factors_of_different_sizes(self):
        product = (("a", "b", "c"), ("",), ("d", "e"), ("f", "g", "h", "i", "j")) + LARGE[:30]
        # 26 is 2 * 10 + 1 * 5 + 1.
        expected = "c" + "" + "e" + "g" + coded(0) * 29 + coded(3)
        self.assertEqual(nth_word(product, 26 * 60 ** 30 + 3), expected)

    def test_wrong_numbers(self):
        for product in SMALL + [LARGE]:
            for index in NO_INTEGERS + OUTSIDE + [count_words(product), count_words(product) + 1]:
                with self.subTest(product=product, index=repr(index)):
                    self.assert_fails(InvalidIndex, nth_word, product, index)

    def test_a_wrong_product_comes_first(self):
        for value in WRONG_PRODUCTS:
            for index in (0, -1, True, None):
                with self.subTest(repr(value), index=index):
                    self.assert_fails(InvalidProduct, nth_word, value, index)


class TotalLetters(ErrorCase):
    def test_small_products(self):
        for product in SMALL:
            with self.subTest(product):
                self.assertEqual(total_letters(product), len("".join(nested_loops(product))))

    def test_large_products(self):
        self.assertEqual(total_letters(LARGE), 800 * LARGE_COUNT)
        self.assertEqual(total_letters(((("",) * 60,) * 40)), 0)
        self.assertEqual(total_letters((("", "a"),) * 40), 20 * 2 ** 40)

    def test_wrong_products(self):
        for value in WRONG_PRODUCTS:
            with self.subTest(repr(value)):
                self.assert_fails(InvalidProduct, total_letters, value)


class WordsFrom(ErrorCase):
    def test_it_is_a_generator(self):
        self.assertTrue(inspect.isgenerator(words_from(SMALL[0], 0)))

    def test_small_products(self):
        for product in SMALL:
            words = nested_loops(product)
            for first in range(len(words)):
                with self.subTest(product, first=first):
                    self.assertEqual(list(words_from(product, first)), words[first:])

    def test_large_products(self):
        found = first_values(words_from(LARGE, 0), 61)
        self.assertEqual(found[:60], [coded(0) * 39 + word for word in LARGE_ROW])
        self.assertEqual(found[60], coded(0) * 38 + coded(1) + coded(0))
        found = first_values(words_from(LARGE, 60 ** 39 - 1), 2)
        self.assertEqual(found, [coded(0) + coded(59) * 39, coded(1) + coded(0) * 39])
        found = list(words_from(LARGE, LARGE_COUNT - 2))
        self.assertEqual(found, [coded(59) * 39 + coded(58), coded(59) * 40])
        self.assertEqual(list(words_from(LARGE, LARGE_COUNT - 1)), [coded(59) * 40])

    def test_two_generators_do_not_disturb_each_other(self):
        one, two = words_from(SMALL[3], 0), words_from(SMALL[3], 2)
        self.assertEqual([next(one), next(two), next(one), next(two)], ["ac", "bc", "ad", "bd"])

    def test_wrong_numbers(self):
        for product in SMALL + [LARGE]:
            for first in NO_INTEGERS + OUTSIDE + [count_words(product), count_words(product) + 1]:
                with self.subTest(product=product, first=repr(first)):
                    self.assert_fails(InvalidIndex, self.first_word, product, first)

    def test_a_wrong_product_comes_first(self):
        for value in WRONG_PRODUCTS:
            for first in (0, -1, True, None):
                with self.subTest(repr(value), first=first):
                    self.assert_fails(InvalidProduct, self.first_word, value, first)

    def first_word(self, product, first):
        return next(words_from(product, first))
