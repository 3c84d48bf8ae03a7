"""[4], [5] and [10]: rows, products and small products written out."""

import unittest

from braceloops.errors import InvalidProduct, InvalidRow, TooMany
from braceloops.rows import is_product, is_row, multiply, written_out
from tests.helpers import (
    LARGE, LARGE_ROW, NO_INTEGERS, WRONG_PRODUCTS, WRONG_ROWS, ErrorCase, nested_loops,
)

FIFTY = tuple("x" * number for number in range(50))


class IsRow(unittest.TestCase):
    def test_rows(self):
        for row in [("",), ("a",), ("az",), ("a", "b"), ("", ""), ("b", "a", "b"), LARGE_ROW]:
            with self.subTest(row):
                self.assertIs(is_row(row), True)

    def test_each_letter_from_a_to_z(self):
        self.assertIs(is_row(tuple("abcdefghijklmnopqrstuvwxyz")), True)
        self.assertIs(is_row(("abcdefghijklmnopqrstuvwxyz",)), True)

    def test_each_other_sign_of_ascii(self):
        for code in [*range(97), *range(123, 128)]:
            for word in (chr(code), "a" + chr(code), chr(code) + "a", "a" + chr(code) + "z"):
                with self.subTest(word):
                    self.assertIs(is_row((word,)), False)

    def test_other_values(self):
        for value in WRONG_ROWS + NO_INTEGERS:
            with self.subTest(repr(value)):
                self.assertIs(is_row(value), False)

    def test_a_product_is_no_row(self):
        self.assertIs(is_row((("a",),)), False)

    def test_there_is_no_bound(self):
        self.assertIs(is_row(("a",) * 100000), True)
        self.assertIs(is_row(("a",) * 100000 + ("A",)), False)
        self.assertIs(is_row(("a" * 100000,)), True)


class IsProduct(unittest.TestCase):
    def test_products(self):
        for product in [(("",),), (("a",),), (("a", "b"), ("c",)), (("", ""),) * 3, LARGE]:
            with self.subTest(product):
                self.assertIs(is_product(product), True)

    def test_other_values(self):
        for value in WRONG_PRODUCTS + NO_INTEGERS:
            with self.subTest(repr(value)):
                self.assertIs(is_product(value), False)

    def test_a_row_is_no_product(self):
        self.assertIs(is_product(("a",)), False)

    def test_there_is_no_bound(self):
        self.assertIs(is_product((("a", "b"),) * 20000), True)
        self.assertIs(is_product((("a", "b"),) * 20000 + ((),)), False)
        self.assertIs(is_product((("a",) * 20000,)), True)


class Multiply(ErrorCase):
    def test_one_row(self):
        self.assertEqual(multiply(("b", "a", "")), ("b", "a", ""))

    def test_the_last_row_runs_fastest(self):
        found = multiply(("a", "b"), ("c", "d", "e"), ("", "x"))
        self.assertEqual(found, ("ac", "acx", "ad", "adx", "ae", "aex",
                                 "bc", "bcx", "bd", "bdx", "be", "bex"))

    def test_empty_words_and_equal_words(self):
        self.assertEqual(multiply(("",), ("",)), ("",))
        self.assertEqual(multiply(("a", "a"), ("", "b", "b")), ("a", "ab", "ab") * 2)
        self.assertEqual(multiply(("", "a"), ("a", "")), ("a", "", "aa", "a"))

    def test_rows_of_one_word(self):
        self.assertEqual(multiply(("ab",), ("c", "d"), ("ef",)), ("abcef", "abdef"))

    def test_many_rows_of_one_word(self):
        self.assertEqual(multiply(*[("a",)] * 500), ("a" * 500,))

    def test_exactly_2000_words(self):
        found = multiply(FIFTY, tuple("y" * number for number in range(40)))
        self.assertEqual(len(found), 2000)
        self.assertEqual(found[-1], "x" * 49 + "y" * 39)
        self.assertEqual(multiply(("a",) * 2000), ("a",) * 2000)
        self.assertEqual(multiply(("a",) * 2000, ("b",)), ("ab",) * 2000)

    def test_more_than_2000_words(self):
        for given in [(("a",) * 2001,), (("a",) * 3, ("b",) * 667), (("b",), ("a",) * 2001),
                      LARGE, (("a", "a"),) * 11]:
            with self.subTest(len(given)):
                self.assertEqual(self.assert_fails(TooMany, multiply, *given).limit, 2000)

    def test_wrong_rows(self):
        for value in WRONG_ROWS:
            with self.subTest(repr(value)):
                self.assert_fails(InvalidRow, multiply, value)
                self.assert_fails(InvalidRow, multiply, ("a",), value)
                self.assert_fails(InvalidRow, multiply, ("a",), ("b",), value, ("c",))

    def test_a_wrong_row_comes_before_too_many_words(self):
        self.assert_fails(InvalidRow, multiply, *LARGE, ("A",))
        self.assert_fails(InvalidRow, multiply, ["a"], *LARGE)


class WrittenOut(ErrorCase):
    def test_nested_loops(self):
        for product in [(("",),), (("a", "b"),), (("a", "b"), ("c", "d")), (("", "x"),) * 5,
                        (("a",), ("b", "b"), ("",), ("c", "", "d")), (("a", ""), ("", "a"))]:
            with self.subTest(product):
                found = written_out(product)
                self.assertEqual(found, tuple(nested_loops(product)))
                self.assertIs(type(found), tuple)

    def test_exactly_2000_words(self):
        product = (FIFTY, ("",), ("a",) * 40)
        self.assertEqual(written_out(product), tuple(nested_loops(product)))
        self.assertEqual(written_out((("", ""),) * 4 + (("a",) * 125,)), ("a",) * 2000)
        self.assertEqual(written_out((("a",) * 2000,)), ("a",) * 2000)

    def test_more_than_2000_words(self):
        for product in [(("a",) * 2001,), (("a",) * 667, ("b",) * 3), LARGE, (("", "x"),) * 11]:
            with self.subTest(len(product)):
                self.assertEqual(self.assert_fails(TooMany, written_out, product).limit, 2000)

    def test_wrong_products(self):
        for value in WRONG_PRODUCTS:
            with self.subTest(repr(value)):
                self.assert_fails(InvalidProduct, written_out, value)

    def test_a_wrong_product_comes_before_too_many_words(self):
        self.assert_fails(InvalidProduct, written_out, LARGE + ((),))
        self.assert_fails(InvalidProduct, written_out, LARGE + (("a", "B"),))
        self.assert_fails(InvalidProduct, written_out, list(LARGE))
