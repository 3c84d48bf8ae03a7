"""[17]: where words occur, and whether some word occurs twice."""

import inspect
import itertools
import math
import random

from braceloops.errors import InvalidIndex, InvalidProduct, InvalidWord
from braceloops.far import nth_word
from braceloops.finest import finest
from braceloops.occurrences import count_of, double, has_double, nth_place, places
from braceloops.rows import written_out
from tests.helpers import (
    EMPTY_WORDS, LARGE, LARGE_COUNT, LARGE_ROW, NO_INTEGERS, WRONG_PRODUCTS, WRONG_WORDS, ErrorCase,
    changed, coded, nested_loops, random_product, recut,
)

PAIRS = (("a", "b"), ("c", "d"))
LETTERS = (("x", "", "x"), ("y",), ("x", ""))
# How often x occurs is in the word alone: the numbers are those with so many binary digits 1.
BITS = (("", "x"),) * 40
OTHER_WORDS = ["", "x", "y", "xx", "xy", "xxx", "yx", "zz", "xxxxxxxxxxxxx"]
# No two words of a row begin alike.
CODE = ("aa", "ab", "ba", "bba", "bbb") + tuple("c" + letter for letter in "abcdefg")


def bits_of(number):
    return number.bit_count()


class Occurrences(ErrorCase):
    def assert_places(self, product, word, expected):
        self.assertEqual(count_of(product, word), len(expected))
        self.assertEqual(list(places(product, word)), expected)
        found = [nth_place(product, word, index) for index in range(len(expected))]
        self.assertEqual(found, expected)
        self.assert_fails(InvalidIndex, nth_place, product, word, len(expected))

    def test_small_products(self):
        self.assert_places(PAIRS, "ac", [0])
        self.assert_places(PAIRS, "bd", [3])
        for word in ("", "a", "acc", "cd", "c", "ca", "xac"):
            self.assert_places(PAIRS, word, [])
        self.assert_places((("",),), "", [0])
        self.assert_places((("",),), "a", [])
        self.assert_places((("a",), ("b",)), "ab", [0])
        self.assert_places((("a", "ab"), ("bc", "c")), "abc", [0, 3])
        self.assert_places(LETTERS, "yx", [2])
        self.assert_places(LETTERS, "y", [3])
        self.assert_places(LETTERS, "xy", [1, 5])
        self.assert_places((("", ""), ("a",), ("", "", "")), "a", list(range(6)))

    def test_against_all_words(self):
        chance = random.Random(17)
        for _ in range(500):
            product = random_product(chance)
            words = nested_loops(product)
            for word in sorted(set(words)) + OTHER_WORDS:
                with self.subTest(product, word=word):
                    expected = [at for at, other in enumerate(words) if other == word]
                    self.assert_places(product, word, expected)
                    self.assert_places(recut(chance, product), word, expected)

    def test_words_of_large_products(self):
        for number in (0, 1, 59, 60 ** 20, 17 * 60 ** 39 + 5, LARGE_COUNT - 1):
            word = nth_word(LARGE, number)
            with self.subTest(number=number):
                self.assert_places(LARGE, word, [number])
                self.assert_places(LARGE, word[1:], [])
                self.assert_places(LARGE, "b" + word[1:], [])
        product = changed(changed(LARGE, 7, 30, coded(20)), 38, 30, coded(20))
        numbers = [20 * 60 ** 32 + 20 * 60, 20 * 60 ** 32 + 30 * 60, 30 * 60 ** 32 + 20 * 60,
                   30 * 60 ** 32 + 30 * 60]
        self.assert_places(product, nth_word(product, numbers[0]), numbers)

    def test_numbers_of_many_digits(self):
        self.assertEqual(count_of(EMPTY_WORDS, ""), LARGE_COUNT)
        self.assertEqual(count_of(EMPTY_WORDS, "a"), 0)
        for index in (0, 1, 60, 60 ** 39, LARGE_COUNT - 1):
            self.assertEqual(nth_place(EMPTY_WORDS, "", index), index)
        self.assertEqual(count_of((("a",) * 60,) * 40, "a" * 40), LARGE_COUNT)
        self.assertEqual(count_of((("a", "a", "b"),) * 40, "a" * 40), 2 ** 40)
        self.assertEqual(nth_place((("b", "a", "a"),) * 40, "a" * 40, 2 ** 40 - 1), 3 ** 40 - 1)
        self.assertEqual(nth_place((("b", "a", "a"),) * 40, "a" * 40, 2 ** 39), (3 ** 40 - 1) // 2 + 3 ** 39)

    def test_ways_through_many_factors(self):
        self.assertEqual(count_of(BITS, "x" * 20), math.comb(40, 20))
        self.assertEqual(nth_place(BITS, "x" * 20, 0), 2 ** 20 - 1)
        self.assertEqual(nth_place(BITS, "x" * 20, 1), 2 ** 21 - 1 - 2 ** 19)
        last = math.comb(40, 20) - 1
        self.assertEqual(nth_place(BITS, "x" * 20, last), 2 ** 40 - 2 ** 20)
        self.assertEqual(count_of(BITS, "x" * 41), 0)
        row = tuple("x" * (number % 21) for number in range(60))
        self.assertEqual(count_of((row,) * 40, "x" * 800), 2 ** 40)
        self.assertEqual(count_of((row,) * 40, "x" * 799), 40 * 2 ** 40)
        self.assertEqual(nth_place((row,) * 40, "x" * 800, 1), 20 * (60 ** 40 - 1) // 59 + 21)

    def test_wrong_numbers(self):
        for product, word in [(PAIRS, "ac"), (PAIRS, "xy"), (LETTERS, "xy"), (EMPTY_WORDS, "")]:
            many = count_of(product, word)
            for index in NO_INTEGERS + [-1, -10 ** 100, many, many + 1, 10 ** 100]:
                with self.subTest(product, word=word, index=repr(index)):
                    self.assert_fails(InvalidIndex, nth_place, product, word, index)

    def test_wrong_words_and_products_in_their_order(self):
        calls = [count_of, self.first_place, lambda product, word: nth_place(product, word, 0),
                 lambda product, word: nth_place(product, word, -1),
                 lambda product, word: nth_place(product, word, None)]
        for call in calls:
            for value in WRONG_WORDS:
                with self.subTest(repr(value)):
                    self.assert_fails(InvalidWord, call, PAIRS, value)
            for value in WRONG_PRODUCTS:
                for word in ("a", "", None, 0):
                    with self.subTest(repr(value), word=word):
                        self.assert_fails(InvalidProduct, call, value, word)

    def first_place(self, product, word):
        return next(places(product, word))


class Places(ErrorCase):
    def test_it_is_a_generator(self):
        self.assertTrue(inspect.isgenerator(places(PAIRS, "ac")))
        self.assertTrue(inspect.isgenerator(places(PAIRS, "")))

    def test_first_values_of_many(self):
        self.assertEqual(list(itertools.islice(places(EMPTY_WORDS, ""), 5)), [0, 1, 2, 3, 4])
        found = list(itertools.islice(places(BITS, "x" * 20), 500))
        expected = [number for number in range(found[-1] + 1) if bits_of(number) == 20]
        self.assertEqual(found, expected)

    def test_two_generators_do_not_disturb_each_other(self):
        one, two = places(LETTERS, "xy"), places(LETTERS, "xy")
        self.assertEqual([next(one), next(two), next(two), next(one)], [1, 1, 5, 5])


class Double(ErrorCase):
    def assert_double(self, product, expected):
        self.assertIs(has_double(product), expected)
        found = double(product)
        if not expected:
            self.assertIsNone(found)
            return
        self.assertIs(type(found), tuple)
        i, k = found
        self.assertLess(i, k)
        self.assertEqual(nth_word(product, i), nth_word(product, k))

    def test_small_products(self):
        self.assert_double((("",),), False)
        self.assert_double((("a",), ("b",)), False)
        self.assert_double(PAIRS, False)
        self.assert_double((("a", "a"),), True)
        self.assert_double((("a", "b"), ("c", "c")), True)
        self.assert_double((("a", "ab"), ("bc", "c")), True)
        self.assert_double((("a", "ab"), ("c", "bd")), False)
        self.assert_double((("", "x"), ("", "x")), True)
        self.assert_double((("", "x"), ("", "xx")), False)
        self.assert_double((("", "x"), ("", "y")), False)
        self.assert_double((("a", "b"), ("x",), ("", "")), True)
        self.assert_double((("ab", "a", "b"),), False)

    def test_the_only_pair(self):
        self.assertEqual(double((("a", "b", "a"),)), (0, 2))
        self.assertEqual(double((("a", "ab"), ("bc", "c"))), (0, 3))
        self.assertEqual(double((("ab", "a"), ("bc", "c"))), (1, 2))
        self.assertEqual(double((("b", "ax"), ("c", "d"), ("x", "y"), ("z",))), None)
        self.assertEqual(double((("", "ab"), ("a", "c"), ("", "ba"))), (1, 4))

    def test_against_all_words(self):
        chance = random.Random(71)
        doubles = 0
        for _ in range(3000):
            product = random_product(chance)
            words = nested_loops(product)
            expected = len(set(words)) < len(words)
            doubles += expected
            with self.subTest(product):
                self.assert_double(product, expected)
                self.assert_double(recut(chance, product), expected)
        self.assertGreater(doubles, 300)
        self.assertLess(doubles, 2700)

    def test_against_all_words_of_two_letters(self):
        chance = random.Random(72)
        words = ["".join(letters) for many in range(4) for letters in itertools.product("ab", repeat=many)]
        found = {True: 0, False: 0}
        for _ in range(3000):
            factors = chance.randint(2, 4)
            product = tuple(tuple(chance.sample(words, chance.randint(2, 4))) for _ in range(factors))
            expected = len(set(nested_loops(product))) < len(nested_loops(product))
            found[expected] += 1
            with self.subTest(product):
                self.assert_double(product, expected)
        self.assertGreater(min(found.values()), 300)

    def test_large_products(self):
        self.assert_double((CODE,) * 12, False)
        self.assert_double((LARGE_ROW[:12],) * 12, False)
        self.assert_double((("a", "ab", "bb"),) * 12, False)
        self.assert_double((("a", "ba", "bb", "c" * 20),) * 12, False)
        self.assert_double((("a", "ab", "ba"),) * 12, True)
        self.assert_double((tuple("x" * number for number in range(12)),) * 12, True)
        self.assert_double((("",) * 12,) * 12, True)
        for factor in (0, 5, 11):
            product = changed((CODE,) * 12, factor, 3, "aa")
            with self.subTest(factor=factor):
                self.assert_double(product, True)

    def test_the_same_word_far_apart(self):
        for many in range(11):
            middle = (CODE[:-1] + ("x",),) * many
            with self.subTest(many=many):
                self.assert_double((("", "x"),) + middle + (("", "x"),), True)
                self.assert_double((("", "x"),) + middle + (("", "y"),), False)
                self.assert_double((("", "x"),) + middle + (("", "xx"),), False)
                self.assert_double((("", "xx"),) + middle + (("", "xx"),), True)
        product = (("", "x"),) + (("y", "yx"),) * 10 + (("z", "xz"),)
        self.assert_double(product, True)

    def test_powers_of_two(self):
        rows = [("", "x" * 2 ** power) for power in range(5)]
        self.assert_double(tuple(rows), False)
        self.assert_double(tuple(rows[::-1]), False)
        self.assert_double(tuple(rows) + (("", "x" * 16),), True)

    def test_products_that_the_package_returns(self):
        row = written_out((("a", "b"),) * 10)
        self.assert_double((row,), False)
        self.assert_double((row, row), False)
        self.assert_double((row, row[:7] + row[:1]), True)
        for product in ((CODE,) * 12, (("", "x", "xx"),) * 12, (("a", "ab", "ba"),) * 12):
            with self.subTest(product):
                self.assert_double(finest(product), has_double(product))

    def test_wrong_products(self):
        for call in (double, has_double):
            for value in WRONG_PRODUCTS:
                with self.subTest(call.__name__, value=repr(value)):
                    self.assert_fails(InvalidProduct, call, value)
