"""[6], [8] and [12]: steps, differences, and products with the same words."""

import random

from braceloops.errors import InvalidIndex, InvalidProduct, InvalidRow, InvalidWord
from braceloops.far import count_words
from braceloops.rows import multiply
from braceloops.steps import commute, first_difference, same_words, step, step_at
from tests.helpers import (
    EMPTY_WORDS, LARGE, LARGE_COUNT, NO_INTEGERS, WRONG_PRODUCTS, WRONG_ROWS, WRONG_WORDS, ErrorCase,
    changed, coded, nested_loops, plain_step, random_product, random_row, run_factors,
)


def plain_difference(product, other):
    """Return the first difference of two products that are small enough to be written out."""
    words, others = nested_loops(product), nested_loops(other)
    for number, (word, another) in enumerate(zip(words, others)):
        if word != another:
            return number
    return None if len(words) == len(others) else min(len(words), len(others))


class Step(ErrorCase):
    def test_steps(self):
        for word, other, expected in [
            ("", "", ("", "")), ("", "a", ("", "a")), ("a", "", ("a", "")), ("a", "a", ("", "")),
            ("ab", "abc", ("", "c")), ("abc", "ab", ("c", "")), ("ab", "cb", ("ab", "cb")),
            ("aba", "aca", ("ba", "ca")), ("xay", "xby", ("ay", "by")),
            ("aab", "ab", ("ab", "b")),
        ]:
            with self.subTest(word=word, other=other):
                self.assertEqual(step(word, other), expected)

    def test_every_length_of_the_common_beginning(self):
        for length in range(12):
            for rest in range(12):
                word, other = "a" * length + "b" * rest, "a" * length + "c"
                with self.subTest(word=word, other=other):
                    self.assertEqual(step(word, other), ("b" * rest, "c"))
                    self.assertEqual(step(other, word), ("c", "b" * rest))

    def test_long_words(self):
        same = "ab" * 399 + "a"
        self.assertEqual(step(same + "b", same + "c"), ("b", "c"))
        self.assertEqual(step(same, same + "c"), ("", "c"))
        self.assertEqual(step("b" + same, "c" + same), ("b" + same, "c" + same))

    def test_wrong_words(self):
        for value in WRONG_WORDS:
            with self.subTest(repr(value)):
                self.assert_fails(InvalidWord, step, value, "a")
                self.assert_fails(InvalidWord, step, "a", value)
                self.assert_fails(InvalidWord, step, value, value)


class StepAt(ErrorCase):
    def test_small_products(self):
        for product in [(("a", "b"), ("c", "d")), (("a", "ab"), ("bc", "c"), ("", "d")),
                        (("", ""), ("", "", "")), (("a", "b", "a"), ("x",), ("y", "", "yy"))]:
            words = nested_loops(product)
            for index in range(1, len(words)):
                with self.subTest(product, index=index):
                    expected = plain_step(words[index - 1], words[index])
                    self.assertEqual(step_at(product, index), expected)

    def test_large_products(self):
        self.assertEqual(step_at(LARGE, 1), ("a", "b"))
        self.assertEqual(step_at(LARGE, LARGE_COUNT - 1), ("g", "h"))
        behind, before = coded(0) * 39, coded(59) * 39
        self.assertEqual(step_at(LARGE, 60 ** 39), ("a" + before, "b" + behind))
        self.assertEqual(step_at(EMPTY_WORDS, 60 ** 40 - 1), ("", ""))

    def test_wrong_numbers(self):
        for product in [(("a",),), (("a",), ("b",)), (("a", "b"), ("c", "d")), LARGE]:
            size = count_words(product)
            for index in NO_INTEGERS + [-1, 0, size, size + 1, 10 ** 100, -10 ** 100]:
                with self.subTest(product=product, index=repr(index)):
                    self.assert_fails(InvalidIndex, step_at, product, index)

    def test_a_wrong_product_comes_first(self):
        for value in WRONG_PRODUCTS:
            for index in (0, 1, True, None):
                with self.subTest(repr(value), index=index):
                    self.assert_fails(InvalidProduct, step_at, value, index)


class FirstDifference(ErrorCase):
    def assert_difference(self, product, other, expected):
        self.assertEqual(first_difference(product, other), expected)
        self.assertEqual(first_difference(other, product), expected)
        self.assertIs(same_words(product, other), expected is None)
        self.assertIs(same_words(other, product), expected is None)

    def test_small_products(self):
        pairs = (("a", "b"), ("c", "d"))
        self.assert_difference(pairs, pairs, None)
        self.assert_difference(pairs, (("ac", "ad", "bc", "bd"),), None)
        self.assert_difference(pairs, (("b", "b"), ("c", "d")), 0)
        self.assert_difference(pairs, (("a", "b"), ("c", "e")), 1)
        self.assert_difference(pairs, (("a", "c"), ("c", "d")), 2)
        self.assert_difference(pairs, (("ac", "ad", "bc", "bc"),), 3)
        self.assert_difference((("",),), (("a",),), 0)
        self.assert_difference((("a", "ab"), ("bc", "c")), (("abc", "ac", "abbc", "abc"),), None)

    def test_one_product_has_the_words_of_the_other_one_and_more(self):
        self.assert_difference((("a",),), (("a", "b"),), 1)
        self.assert_difference((("",),), (("", ""),), 1)
        self.assert_difference((("a", "b"), ("c", "d")), (("a", "b", "a"), ("c", "d")), 4)
        self.assert_difference(EMPTY_WORDS, (("",) * 59,) * 40, 59 ** 40)
        self.assert_difference(EMPTY_WORDS, EMPTY_WORDS[:39], 60 ** 39)
        self.assert_difference(LARGE, (LARGE[0][:-1],) + LARGE[1:], 59 * 60 ** 39)

    def test_large_products_with_one_other_word(self):
        for factor in (0, 1, 20, 39):
            for place in (0, 1, 30, 59):
                with self.subTest(factor=factor, place=place):
                    other = changed(LARGE, factor, place, coded(60))
                    self.assert_difference(LARGE, other, place * 60 ** (39 - factor))

    def test_words_that_begin_alike_up_to_the_last_letter(self):
        same = (("a" * 20,) * 60,) * 40
        self.assert_difference(same, changed(same, 0, 59, "a" * 19 + "b"), 59 * 60 ** 39)
        self.assert_difference(same, changed(same, 39, 59, "a" * 19 + "b"), 59)
        self.assert_difference(same, changed(same, 5, 3, "a" * 19), 3 * 60 ** 34)

    def test_equal_words_through_different_factors(self):
        self.assert_difference((("", "xxx"), ("", "x", "xx")), (("", "xx", "xxxx"), ("", "x")), None)
        self.assert_difference((("a", "b"), ("xc", "xd")) * 20, (("ax", "bx"), ("c", "d")) * 20, None)
        self.assert_difference((("a", "b"), ("x",), ("c", "d")), (("ax", "bx"), ("c", "d")), None)
        self.assert_difference((("",) * 2, ("",) * 3) * 20, (("",) * 6,) * 20, None)
        self.assert_difference((("",) * 4, ("",) * 9) * 20, (("",) * 36,) * 20, None)
        pairs, triples = (("", "xxx"), ("", "x", "xx")), (("", "xx", "xxxx"), ("", "x"))
        self.assert_difference(pairs + LARGE[:30] + triples, triples + LARGE[:30] + pairs, None)

    def test_different_factors_and_one_other_word_far_in(self):
        pairs, triples = (("", "xxx"), ("", "x", "xx")), (("", "xx", "xxxx"), ("", "x"))
        product, other = pairs + LARGE[:30] + triples, triples + LARGE[:30] + pairs
        self.assert_difference(product, changed(other, 0, 2, "xxxxx"), 4 * 60 ** 30 * 6)
        self.assert_difference(product, changed(other, 0, 1, "xxx"), 2 * 60 ** 30 * 6)
        self.assert_difference(product, changed(other, 33, 2, "xxx"), 2)
        self.assert_difference(product, changed(other, 32, 1, "xx"), 3)

    def test_steps_of_different_sizes_that_meet_late(self):
        product, other = (("", "xx", "xxxxxx"), ("", "xx")), (("", "xxxx"), ("", "xx", "xx"))
        self.assert_difference(product, other, 5)
        self.assert_difference((("", "x", "xx"),) * 2, (("", "x", "xx", "x", "xx"), ("",)), 5)
        self.assert_difference((("", "x", "xx"),) * 2, (("", "x", "xx", "x", "xx", "xx"),), 5)

    def test_against_products_written_out(self):
        chance = random.Random(12)
        for _ in range(3000):
            product, other = random_product(chance), random_product(chance)
            with self.subTest(product=product, other=other):
                self.assert_difference(product, other, plain_difference(product, other))

    def test_against_runs_written_out(self):
        chance = random.Random(8)
        for _ in range(1000):
            size = chance.choice([6, 12, 24, 30, 36, 60])
            product = run_factors(chance, size)
            other = run_factors(chance, chance.choice([size, size, 12, 24]))
            factor = chance.randrange(len(other))
            place = chance.randrange(len(other[factor]))
            twisted = changed(other, factor, place, other[factor][place] + chance.choice("xy"))
            for each in (other, twisted):
                with self.subTest(product=product, other=each):
                    self.assert_difference(product, each, plain_difference(product, each))

    def test_wrong_products(self):
        for call in (first_difference, same_words):
            for value in WRONG_PRODUCTS:
                with self.subTest(call.__name__, value=repr(value)):
                    self.assert_fails(InvalidProduct, call, value, (("a",),))
                    self.assert_fails(InvalidProduct, call, (("a",),), value)
                    self.assert_fails(InvalidProduct, call, (("b",),), value)
                    self.assert_fails(InvalidProduct, call, value, value)


class Commute(ErrorCase):
    def assert_commute(self, row, other, expected):
        self.assertIs(commute(row, other), expected)
        self.assertIs(commute(other, row), expected)

    def test_rows(self):
        self.assert_commute(("a", "b"), ("a", "b"), True)
        self.assert_commute(("a", "b"), ("c", "d"), False)
        self.assert_commute(("a", "b"), ("",), True)
        self.assert_commute(("a", "b"), ("a",), False)
        self.assert_commute(("ab",), ("abab",), True)
        self.assert_commute(("ab",), ("ba",), False)
        self.assert_commute(("", "x"), ("", "xx"), False)
        self.assert_commute(("a", "a"), ("aa", "aa", "aa"), True)
        self.assert_commute(("a", "b"), ("b", "a"), False)

    def test_powers_of_a_row(self):
        row = ("", "a", "b")
        self.assert_commute(row, multiply(row, row), True)
        self.assert_commute(multiply(row, row), multiply(row, row, row), True)
        self.assert_commute(multiply(row, row), multiply(row, row, ("", "a", "c")), False)

    def test_against_products_written_out(self):
        chance = random.Random(4)
        for _ in range(1000):
            row, other = random_row(chance), random_row(chance)
            with self.subTest(row=row, other=other):
                expected = nested_loops((row, other)) == nested_loops((other, row))
                self.assert_commute(row, other, expected)

    def test_there_is_no_bound_for_the_product(self):
        self.assert_commute(LARGE[0], LARGE[0], True)
        self.assert_commute(("",) * 2000, ("",) * 1999, True)
        self.assert_commute(("",) * 2000, ("",) * 1998 + ("a",), False)

    def test_wrong_rows(self):
        for value in WRONG_ROWS:
            with self.subTest(repr(value)):
                self.assert_fails(InvalidRow, commute, value, ("a",))
                self.assert_fails(InvalidRow, commute, ("a",), value)
                self.assert_fails(InvalidRow, commute, value, value)
