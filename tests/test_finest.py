"""[7], [9], [14] and [15]: runs, finest forms, and quotients."""

import math
import random

from braceloops.errors import InvalidProduct, InvalidRow, InvalidSize, TooMany
from braceloops.far import count_words
from braceloops.finest import (
    count_finest, count_right_sizes, finest, finest_sizes, is_right_size, is_run, left_quotient,
    right_quotient,
)
from braceloops.rows import multiply, written_out
from braceloops.sizes import right_sizes
from braceloops.steps import same_words
from tests.helpers import (
    EMPTY_WORDS, LARGE, LARGE_COUNT, LARGE_ROW, NO_INTEGERS, WRONG_PRODUCTS, WRONG_ROWS, ErrorCase,
    coded, common_beginning, nested_loops, plain_cuts, plain_sizes, plain_steps, random_product,
    random_row, recut, run_factors,
)

SIXTY = (("", "x"), ("", "x", "xx"))
ONE_WORD = [(("",),), (("abc",),), (("ab",), ("",), ("c",)), (("",),) * 40, (("a" * 20,),) * 40]


def plain_is_run(row):
    return len(set(plain_steps(row).values())) <= 1


def plain_count(row):
    """Return how many products [14] counts, by cutting off every last factor that it allows."""
    if len(row) == 1:
        return 1
    many = 0
    for size in plain_sizes(row)[1:]:
        for front, behind in plain_cuts(row, size):
            if not common_beginning(behind) and len(plain_sizes(behind)) == 2:
                many += plain_count(front)
    return many


def small_products():
    """Return products of all kinds that have at most 60 words."""
    chance = random.Random(14)
    found = list(ONE_WORD)
    while len(found) < 600:
        product = random_product(chance)
        if chance.random() < 0.5:
            product = product + run_factors(chance, chance.choice([2, 4, 6, 8, 12]))
        if chance.random() < 0.3:
            at = chance.randrange(len(product) + 1)
            product = product[:at] + ((chance.choice(["x", "y", "xy"]),),) + product[at:]
        if count_words(product) <= 60:
            found.append(product)
    return found


def large_products(chance, many):
    """Return products of up to 40 factors, with runs and factors of one word among them."""
    found = []
    while len(found) < many:
        product = ()
        while len(product) < 34:
            product += chance.choice([
                (random_row(chance),), run_factors(chance, chance.choice([4, 6, 12])),
                (("",) * chance.randint(2, 60),), (LARGE_ROW[:chance.randint(2, 60)],),
                ((chance.choice(["x", "yx", "aaab"]),),), (("",),),
            ])
        found.append(product)
    return found


class IsRun(ErrorCase):
    def test_rows(self):
        for row, expected in [
            (("",), True), (("ab",), True), (("", ""), True), (("a", "b"), True), (("b", "ab"), True),
            (("", "x", "xx"), True), (("xx", "x", ""), True), (("a", "a", "a"), True),
            (("b", "ab", "aab"), True), (("aab", "ab", "b"), True), (("a", "b", "c"), False),
            (("", "x", "x"), False), (("x", "x", ""), False), (("", "x", "xxx"), False),
            (("", "x", ""), False), (("", "x", "yx"), False), (("ab", "b", ""), False),
        ]:
            with self.subTest(row):
                self.assertIs(is_run(row), expected)

    def test_long_rows(self):
        row = tuple("x" * number + "y" for number in range(60))
        self.assertIs(is_run(row), True)
        self.assertIs(is_run(row[:59] + ("y",)), False)
        self.assertIs(is_run(("x",) + row[1:]), False)
        self.assertIs(is_run(("",) * 2000), True)
        self.assertIs(is_run(("",) * 1999 + ("a",)), False)

    def test_against_all_steps(self):
        chance = random.Random(7)
        for _ in range(1000):
            row = random_row(chance)
            with self.subTest(row):
                self.assertIs(is_run(row), plain_is_run(row))

    def test_wrong_rows(self):
        for value in WRONG_ROWS:
            with self.subTest(repr(value)):
                self.assert_fails(InvalidRow, is_run, value)


class Finest(ErrorCase):
    def assert_finest(self, product, expected):
        self.assertEqual(finest(product), expected)
        self.assertEqual(finest_sizes(product), [len(row) for row in expected])

    def test_factors_of_one_word(self):
        self.assert_finest((("a", "b"), ("x",), ("c", "d")), (("ax", "bx"), ("c", "d")))
        self.assert_finest((("x",), ("a", "b"), ("c", "d")), (("xa", "xb"), ("c", "d")))
        self.assert_finest((("a", "b"), ("c", "d"), ("x",)), (("a", "b"), ("cx", "dx")))
        self.assert_finest((("x",), ("y",), ("a", "b"), ("y",), ("x",)), (("xyayx", "xybyx"),))
        self.assert_finest((("",), ("a", "b"), ("",), ("c", "d"), ("",)), (("a", "b"), ("c", "d")))
        self.assert_finest((("a", "b"), ("x",), ("", "y")), (("ax", "bx"), ("", "y")))
        self.assert_finest((("", "x"), ("x",), ("", "xx")), (("x", "xx"), ("", "xx")))
        self.assert_finest((("", "xx"), ("x",), ("", "x")), (("x", "xx", "xxx", "xxxx"),))

    def test_one_word(self):
        self.assert_finest(ONE_WORD[0], (("",),))
        self.assert_finest(ONE_WORD[1], (("abc",),))
        self.assert_finest(ONE_WORD[2], (("abc",),))
        self.assert_finest(ONE_WORD[3], (("",),))
        self.assert_finest(ONE_WORD[4], (("a" * 800,),))

    def test_letters_that_move_to_the_front(self):
        self.assert_finest((("a", "b"), ("xc", "xd")), (("ax", "bx"), ("c", "d")))
        self.assert_finest((("xa", "xb"), ("xc", "xd")), (("xax", "xbx"), ("c", "d")))
        self.assert_finest((("a", "b"), ("xy", "xy"), ("yc", "yd")), (("axyy", "bxyy"), ("", ""), ("c", "d")))
        self.assert_finest((("", "x"), ("x", "x")), (("x", "xx"), ("", "")))
        self.assert_finest((("x",), ("xx", "xy")), (("xxx", "xxy"),))

    def test_runs(self):
        row = tuple("x" * number for number in range(12))
        chance = random.Random(9)
        for _ in range(30):
            self.assert_finest(run_factors(chance, 12), (row,))
        self.assert_finest((row[:4], row[:3]), (row[:4], row[:3]))
        self.assert_finest((("xx", ""), ("x", "")), (("xxx", "xx", "x", ""),))
        self.assert_finest((("xx", ""), ("", "x")), (("xx", ""), ("", "x")))
        self.assert_finest((("", "aa"), ("b", "ab")), (("b", "ab", "aab", "aaab"),))
        self.assert_finest((("", "aa"), ("ab", "b")), (("", "aa"), ("ab", "b")))
        self.assert_finest((("a", "a"), ("b", "b")), (("ab",) * 4,))
        self.assert_finest((("a", "a"), ("b", "c"), ("", "")), (("a", "a"), ("b", "c"), ("", "")))

    def test_a_row_is_cut(self):
        self.assert_finest((("ac", "ad", "bc", "bd"),), (("a", "b"), ("c", "d")))
        self.assert_finest((("ac", "ad", "bd", "bc"),), (("ac", "ad", "bd", "bc"),))
        self.assert_finest((("a", "b", "c", "d"), ("", "x")), (("a", "b", "c", "d"), ("", "x")))
        row = tuple(nested_loops((("a", "b", "c"), ("", "xx"), ("", "x"), ("d", "e"))))
        self.assert_finest((row,), (("a", "b", "c"), ("", "x", "xx", "xxx"), ("d", "e")))

    def test_the_three_rules(self):
        for product in small_products():
            form = finest(product)
            with self.subTest(product):
                self.assertEqual(nested_loops(form), nested_loops(product))
                for at, row in enumerate(form):
                    self.assertTrue(plain_is_run(row) or plain_sizes(row) == [1, len(row)])
                    if at > 0:
                        self.assertEqual(common_beginning(row), "")
                        self.assertFalse(plain_is_run(nested_loops(form[at - 1:at + 1])))
                    if len(row) == 1:
                        self.assertEqual(len(nested_loops(product)), 1)
                self.assertEqual(finest_sizes(product), [len(row) for row in form])

    def test_the_same_words_in_other_factors(self):
        chance = random.Random(99)
        for product in small_products() + large_products(chance, 20):
            other = recut(chance, product)
            with self.subTest(product=product, other=other):
                self.assertEqual(finest_sizes(other), finest_sizes(product))
                self.assertEqual(count_finest(other), count_finest(product))
                self.assertEqual(count_right_sizes(other), count_right_sizes(product))
                if max(finest_sizes(product)) <= 2000:
                    self.assertEqual(finest(other), finest(product))

    def test_large_products(self):
        first = tuple(coded(number) + "a" * 18 for number in range(60))
        inner = tuple(word[18:] + "a" * 18 for word in LARGE_ROW)
        last = tuple(word[18:] for word in LARGE_ROW)
        self.assert_finest(LARGE, (first,) + (inner,) * 38 + (last,))
        form = finest((("x",),) + LARGE[:38] + (("y",),))
        self.assertEqual(form[0], tuple("x" + word for word in first))
        self.assertEqual(form[-1], tuple(word + "y" for word in last))
        self.assertEqual(finest(form), form)

    def test_a_large_product_with_runs(self):
        product = SIXTY + LARGE[:36] + (("", "xxx"), ("", "x", "xx"))
        form = finest(product)
        self.assertEqual(finest_sizes(product), [2, 3] + [60] * 36 + [6])
        self.assertEqual(form[-1], tuple("x" * number for number in range(6)))
        self.assertTrue(same_words(form, product))

    def test_long_runs_of_equal_words(self):
        self.assertEqual(finest_sizes(EMPTY_WORDS), [LARGE_COUNT])
        self.assertEqual(finest_sizes((("a" * 20,) * 60,) * 40), [LARGE_COUNT])
        for product in (EMPTY_WORDS, (("a" * 20,) * 60,) * 40, (("",) * 3, ("",) * 667),
                        LARGE[:5] + (("",) * 47, ("",) * 47) + LARGE[:5]):
            with self.subTest(product):
                self.assertEqual(self.assert_fails(TooMany, finest, product).limit, 2000)
        self.assertEqual(finest((("a",) * 40, ("b",) * 50)), (("ab",) * 2000,))
        self.assertEqual(finest((("",) * 2000, ("a", "b"))), (("",) * 2000, ("a", "b")))
        self.assertEqual(finest_sizes(LARGE[:5] + EMPTY_WORDS[:20] + LARGE[:5]),
                         [60] * 5 + [60 ** 20] + [60] * 5)

    def test_rows_that_the_package_returns(self):
        row = written_out((("a", "b"),) * 10)
        self.assert_finest((row,) * 4, (("a", "b"),) * 40)
        letters = tuple("x" * number for number in range(1500))
        self.assert_finest((letters,), (letters,))
        product = (("", "x" * 1500), letters)
        self.assertEqual(finest_sizes(product), [3000])
        self.assertEqual(self.assert_fails(TooMany, finest, product).limit, 2000)

    def test_wrong_products(self):
        for call in (finest, finest_sizes, count_finest, count_right_sizes):
            for value in WRONG_PRODUCTS:
                with self.subTest(call.__name__, value=repr(value)):
                    self.assert_fails(InvalidProduct, call, value)


class Counts(ErrorCase):
    def test_against_all_products_of_factors_that_cannot_be_cut(self):
        for product in small_products():
            row = tuple(nested_loops(product))
            if len(row) <= 24:
                with self.subTest(product):
                    self.assertEqual(count_finest(product), plain_count(row))

    def test_count_finest(self):
        self.assertEqual(count_finest((("a", "b"), ("c", "d"))), 1)
        self.assertEqual(count_finest((("a", "b", "c", "d"),)), 1)
        self.assertEqual(count_finest((tuple("x" * number for number in range(60)),)), 12)
        self.assertEqual(count_finest(LARGE), 1)
        self.assertEqual(count_finest((("",) * 12, ("a", "b"), ("",) * 30)), 18)
        self.assertEqual(count_finest((("", ""),) * 40), 1)
        many = math.factorial(160) // math.factorial(80) // math.factorial(40) ** 2
        self.assertEqual(count_finest(EMPTY_WORDS), many)
        for product in ONE_WORD:
            self.assertEqual(count_finest(product), 1)

    def test_count_right_sizes(self):
        self.assertEqual(count_right_sizes((("a", "b", "c", "d"),)), 2)
        self.assertEqual(count_right_sizes((("",) * 4,)), 3)
        self.assertEqual(count_right_sizes(LARGE), 41)
        self.assertEqual(count_right_sizes(EMPTY_WORDS), 81 * 41 * 41)
        self.assertEqual(count_right_sizes(LARGE[:5] + EMPTY_WORDS[:30] + LARGE[:5]), 61 * 31 * 31 + 10)
        for product in ONE_WORD:
            self.assertEqual(count_right_sizes(product), 1)


class RightSize(ErrorCase):
    def test_against_all_cuts(self):
        for product in small_products():
            row = tuple(nested_loops(product))
            expected = plain_sizes(row)
            with self.subTest(product):
                found = [size for size in range(1, len(row) + 5) if is_right_size(product, size)]
                self.assertEqual(found, expected)
                self.assertEqual(count_right_sizes(product), len(expected))
                self.assertEqual(right_sizes(row), expected)

    def test_large_products(self):
        for size, expected in [
            (1, True), (60, True), (60 ** 20, True), (60 ** 39, True), (60 ** 40, True), (2, False),
            (30, False), (60 ** 20 * 2, False), (60 ** 39 * 30, False), (60 ** 40 * 2, False),
            (60 ** 41, False), (2 ** 40, False), (7, False), (10 ** 100 - 1, False),
        ]:
            with self.subTest(size=size):
                self.assertIs(is_right_size(LARGE, size), expected)

    def test_long_runs(self):
        for size, expected in [
            (1, True), (2, True), (2 ** 80, True), (2 ** 81, False), (3 ** 40 * 5 ** 40, True), (7, False),
            (60 ** 40, True), (60 ** 40 // 7 * 7, False), (60 ** 40 * 2, False), (10 ** 40, True),
        ]:
            with self.subTest(size=size):
                self.assertIs(is_right_size(EMPTY_WORDS, size), expected)
                product = EMPTY_WORDS + (LARGE_ROW,)
                self.assertIs(is_right_size(product, 60 * size), expected)
                self.assertIs(is_right_size(LARGE[:2] + EMPTY_WORDS, size), expected)

    def test_sizes_inside_of_a_row_and_across_rows(self):
        product = (("a", "b"), ("", "xxx"), ("", "x", "xx"), ("c", "d"))
        found = [size for size in range(1, 30) if is_right_size(product, size)]
        self.assertEqual(found, [1, 2, 4, 6, 12, 24])
        product = (("a", "b", "c", "d", "e", "f"), ("g", "h", "j", "k"))
        self.assertEqual([size for size in range(1, 30) if is_right_size(product, size)], [1, 4, 24])

    def test_one_word(self):
        for product in ONE_WORD:
            self.assertIs(is_right_size(product, 1), True)
            self.assertIs(is_right_size(product, 2), False)
            self.assertIs(is_right_size(product, 10 ** 99), False)

    def test_errors(self):
        for size in NO_INTEGERS + [0, -1, -10 ** 100]:
            for product in ((("a",),), LARGE, EMPTY_WORDS):
                with self.subTest(repr(size)):
                    self.assert_fails(InvalidSize, is_right_size, product, size)
        for value in WRONG_PRODUCTS:
            for size in (1, 0, True, None):
                with self.subTest(repr(value), size=size):
                    self.assert_fails(InvalidProduct, is_right_size, value, size)


class Quotients(ErrorCase):
    def test_small_rows(self):
        row = ("ac", "ad", "bc", "bd")
        for other, right, left in [
            (row, ("",), ("",)), (("",), row, row), (("a", "b"), None, ("c", "d")),
            (("c", "d"), ("a", "b"), None), (("a",), None, None), (("c",), None, None),
            (("ac", "bc"), None, None), (("a", "b", "c"), None, None), (row + row, None, None),
            (("ac", "ad", "bc"), None, None), (("xac", "xad"), None, None), (("d", "c"), None, None),
            (("b", "a"), None, None), (("", ""), None, None), (row + ("",), None, None),
        ]:
            with self.subTest(other):
                self.assertEqual(right_quotient(row, other), right)
                self.assertEqual(left_quotient(row, other), left)

    def test_letters_between_the_two_rows(self):
        row = ("axc", "axd", "bxc", "bxd")
        self.assertEqual(right_quotient(row, ("c", "d")), ("ax", "bx"))
        self.assertEqual(right_quotient(row, ("xc", "xd")), ("a", "b"))
        self.assertEqual(left_quotient(row, ("a", "b")), ("xc", "xd"))
        self.assertEqual(left_quotient(row, ("ax", "bx")), ("c", "d"))
        self.assertEqual(right_quotient(("xab", "xb"), ("b",)), ("xa", "x"))
        self.assertEqual(left_quotient(("xab", "xb"), ("x",)), ("ab", "b"))
        self.assertIsNone(right_quotient(("b", "ab"), ("ab",)))
        self.assertIsNone(left_quotient(("a", "ab"), ("ab",)))

    def test_quotients_of_products(self):
        chance = random.Random(15)
        for _ in range(1000):
            row, other = random_row(chance), random_row(chance)
            joint = tuple(nested_loops((row, other)))
            with self.subTest(row=row, other=other):
                self.assertEqual(right_quotient(joint, other), row)
                self.assertEqual(left_quotient(joint, row), other)

    def test_what_comes_back_is_right_or_there_is_none(self):
        chance = random.Random(51)
        for _ in range(1500):
            row = tuple(nested_loops(random_product(chance)[:3]))
            other = random_row(chance)
            many = len(row) // len(other) * (len(row) % len(other) == 0)
            with self.subTest(row=row, other=other):
                right = [front for front, behind in plain_cuts(row, len(other)) if behind == other]
                left = [behind for front, behind in plain_cuts(row, many) if front == other] if many else []
                self.assertEqual([right_quotient(row, other)], right or [None])
                self.assertEqual([left_quotient(row, other)], left or [None])

    def test_long_rows(self):
        row = multiply(LARGE_ROW, LARGE_ROW[:33])
        self.assertEqual(right_quotient(row, LARGE_ROW[:33]), LARGE_ROW)
        self.assertEqual(left_quotient(row, LARGE_ROW), LARGE_ROW[:33])
        self.assertIsNone(right_quotient(row, LARGE_ROW))
        self.assertIsNone(left_quotient(row, LARGE_ROW[:33]))
        self.assertEqual(right_quotient(("",) * 2000, ("",) * 8), ("",) * 250)
        self.assertIsNone(right_quotient(("",) * 2000, ("",) * 7))
        self.assertIsNone(left_quotient(("",) * 1999 + ("a",), ("",) * 8))

    def test_wrong_rows(self):
        for call in (right_quotient, left_quotient):
            for value in WRONG_ROWS:
                with self.subTest(call.__name__, value=repr(value)):
                    self.assert_fails(InvalidRow, call, value, ("a",))
                    self.assert_fails(InvalidRow, call, ("a",), value)
                    self.assert_fails(InvalidRow, call, value, value)
