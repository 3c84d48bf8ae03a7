"""[8] and [13]: right sizes of rows."""

import itertools
import random

from braceloops.errors import InvalidRow, InvalidSize, NotASize
from braceloops.rows import multiply
from braceloops.sizes import right_sizes, split, why_not
from tests.helpers import (
    LARGE_ROW, NO_INTEGERS, WRONG_ROWS, ErrorCase, common_beginning, nested_loops, plain_cuts,
    plain_sizes, plain_steps, random_product,
)

NO_SIZES = NO_INTEGERS + [0, -1, -2, -10 ** 100]
X_ROW = tuple("x" * number for number in range(60))
EQUAL_ROW = ("ab",) * 60
SMALL = [
    ("",), ("abc",), ("", ""), ("a", "b"), ("a", "a", "a"), ("a", "b", "c"), ("b", "ab", "aab", "aaab"),
    ("ac", "ad", "bc", "bd"), ("ac", "ad", "bd", "bc"), ("ab", "ba", "aab", "aba"),
    ("xx", "x", "", "x"), ("xxx", "xx", "x", ""), ("a", "ab", "ca", "cab", "", "b"),
    tuple(nested_loops((("ab", "b"), ("", "c"), ("d", "de", "")))),
]


def small_rows():
    """Return rows of all kinds: by hand, all with few short words, and products of small rows."""
    chance = random.Random(13)
    rows = list(SMALL)
    for many in (1, 2, 3, 4):
        rows.extend(itertools.product(["", "x", "xx", "y"], repeat=many))
    while len(rows) < 700:
        row = tuple(nested_loops(random_product(chance)))
        if len(row) <= 48:
            rows.append(row)
    return rows


def plain_reason(row, size):
    """Return what why_not must return, by the words of [13]."""
    if len(row) % size != 0:
        return (0, 0)
    steps = plain_steps(row)
    for i in steps:
        for k in range(1, i):
            if i % size == k % size != 0 and steps[i] != steps[k]:
                return (i, k)
    return None


class Against(ErrorCase):
    def test_right_sizes_against_all_cuts(self):
        for row in small_rows():
            with self.subTest(row):
                self.assertEqual(right_sizes(row), plain_sizes(row))

    def test_split_against_all_cuts(self):
        for row in small_rows():
            for size in range(1, len(row) + 1):
                found = [pair for pair in plain_cuts(row, size) if not common_beginning(pair[1])]
                with self.subTest(row, size=size):
                    if found:
                        self.assertEqual([split(row, size)], found)
                    else:
                        error = self.assert_fails(NotASize, split, row, size)
                        self.assertEqual(error.size, size)

    def test_why_not_against_all_pairs_of_steps(self):
        for row in small_rows():
            for size in range(1, len(row) + 3):
                with self.subTest(row, size=size):
                    self.assertEqual(why_not(row, size), plain_reason(row, size))


class RightSizes(ErrorCase):
    def test_small_rows(self):
        self.assertEqual(right_sizes(("",)), [1])
        self.assertEqual(right_sizes(("abc",)), [1])
        self.assertEqual(right_sizes(("a", "b")), [1, 2])
        self.assertEqual(right_sizes(("ac", "ad", "bd", "bc")), [1, 4])

    def test_large_rows(self):
        divisors = [1, 2, 3, 4, 5, 6, 10, 12, 15, 20, 30, 60]
        self.assertEqual(right_sizes(X_ROW), divisors)
        self.assertEqual(right_sizes(X_ROW[::-1]), divisors)
        self.assertEqual(right_sizes(EQUAL_ROW), divisors)
        self.assertEqual(right_sizes(LARGE_ROW), [1, 60])

    def test_one_other_word_at_any_place(self):
        for place in range(60):
            row = EQUAL_ROW[:place] + ("",) + EQUAL_ROW[place + 1:]
            with self.subTest(place=place):
                self.assertEqual(right_sizes(row), plain_sizes(row))
                self.assertEqual(right_sizes(row)[-1], 60)

    def test_rows_that_the_package_returns(self):
        row = multiply(*(("a", "b"),) * 10)
        self.assertEqual(right_sizes(row), [2 ** power for power in range(11)])
        self.assertEqual(len(right_sizes(("",) * 2000)), 20)

    def test_wrong_rows(self):
        for value in WRONG_ROWS:
            with self.subTest(repr(value)):
                self.assert_fails(InvalidRow, right_sizes, value)


class Split(ErrorCase):
    def test_the_second_row_has_no_common_first_letter(self):
        self.assertEqual(split(("xay", "xby"), 2), (("x",), ("ay", "by")))
        self.assertEqual(split(("xay", "xby"), 1), (("xay", "xby"), ("",)))
        self.assertEqual(split(("xyz",), 1), (("xyz",), ("",)))
        self.assertEqual(split(("axb", "axc", "bxb", "bxc"), 2), (("ax", "bx"), ("b", "c")))
        self.assertEqual(split(("ab", "ab"), 2), (("ab",), ("", "")))

    def test_large_rows(self):
        fronts = tuple("x" * number for number in range(0, 60, 12))
        self.assertEqual(split(X_ROW, 12), (fronts, X_ROW[:12]))
        self.assertEqual(split(EQUAL_ROW, 20), (("ab",) * 3, ("",) * 20))
        row = multiply(LARGE_ROW, LARGE_ROW[:30])
        letters = tuple(word[18:] for word in LARGE_ROW[:26])
        front, behind = split(multiply(LARGE_ROW, LARGE_ROW[:26]), 26)
        self.assertEqual(front, tuple(word + "a" * 19 for word in LARGE_ROW))
        self.assertEqual(behind, tuple(word[1:] for word in letters))
        self.assertEqual(multiply(*split(row, 30)), row)

    def test_what_is_no_right_size(self):
        for row in (("ac", "ad", "bd", "bc"), LARGE_ROW, ("a",)):
            for size in (2, 3, 5, 30, 59, 61, 120, 10 ** 99, 10 ** 100 - 1):
                with self.subTest(row, size=size):
                    error = self.assert_fails(NotASize, split, row, size)
                    self.assertEqual(error.size, size)


class WhyNot(ErrorCase):
    def test_sizes_that_do_not_divide(self):
        for row in (("a",), ("ac", "ad", "bd", "bc"), LARGE_ROW, EQUAL_ROW):
            for size in (7, 61, 120, 10 ** 99, 10 ** 100 - 1):
                with self.subTest(row, size=size):
                    self.assertEqual(why_not(row, size), (0, 0))

    def test_the_least_numbers(self):
        self.assertEqual(why_not(("a", "a", "a", "a", "b", "b", "b", "b"), 2), None)
        self.assertEqual(why_not(("a", "a", "a", "b", "b", "b", "b", "b"), 2), (3, 1))
        self.assertEqual(why_not(("", "", "", "", "", "a", "", "a"), 4), (5, 1))
        self.assertEqual(why_not(("", "", "", "", "", "", "", "a"), 4), (7, 3))
        self.assertEqual(why_not(("", "", "", "", "", "", "", "a"), 2), (7, 1))
        self.assertEqual(why_not(EQUAL_ROW[:58] + ("", "ab"), 30), (58, 28))

    def test_the_sizes_one_and_all(self):
        for row in SMALL + [LARGE_ROW]:
            with self.subTest(row):
                self.assertIsNone(why_not(row, 1))
                self.assertIsNone(why_not(row, len(row)))


class Errors(ErrorCase):
    def test_wrong_sizes(self):
        for call in (split, why_not):
            for row in SMALL:
                for size in NO_SIZES:
                    with self.subTest(call.__name__, row=row, size=repr(size)):
                        self.assert_fails(InvalidSize, call, row, size)

    def test_a_wrong_row_comes_first(self):
        for call in (split, why_not):
            for value in WRONG_ROWS:
                for size in (1, 2, 10 ** 99, 0, True, None):
                    with self.subTest(call.__name__, value=repr(value), size=size):
                        self.assert_fails(InvalidRow, call, value, size)
