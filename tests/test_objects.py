"""[19] and [20]: rows and products as objects."""

import operator
import random
from unittest.mock import ANY

from braceloops.errors import (
    BraceError, InvalidIndex, InvalidProduct, InvalidRow, NotAFactor, NotARow, NotLoops, TooMany,
)
from braceloops.far import nth_word
from braceloops.finest import finest
from braceloops.objects import Loops, Row
from tests.helpers import (
    EMPTY_WORDS, LARGE, LARGE_COUNT, LARGE_ROW, NO_INTEGERS, WRONG_PRODUCTS, WRONG_ROWS, WRONG_WORDS,
    Endless, ErrorCase, changed, coded, nested_loops, plain_cuts, random_product, random_row, recut,
)

PAIRS = (("a", "b"), ("c", "d"))
WORDS = ("ac", "ad", "bc", "bd")
SIXES, OTHER_SIXES = (("", "xx", "xxxx"), ("", "x")), (("", "xxx"), ("", "x", "xx"))
OTHER_VALUES = [
    None, True, False, 0, 1, 2, 1.5, "", "a", "ac", b"a", (), ("a",), ("a", "b"), WORDS, PAIRS, [], ["a"],
    list(WORDS), {"a"}, {"a": 1}, iter(("a",)), range(2), object(), tuple, Row, Loops, Endless(), ANY,
]


class RowObjects(ErrorCase):
    def assert_row(self, found, words):
        self.assertIs(type(found), Row)
        self.assertEqual(found.words, words)
        self.assertIs(type(found.words), tuple)

    def test_words(self):
        for words in [("",), ("a",), ("b", "a", "b"), LARGE_ROW, ("x",) * 5000]:
            self.assert_row(Row(words), words)

    def test_wrong_rows(self):
        for value in WRONG_ROWS:
            with self.subTest(repr(value)):
                self.assert_fails(InvalidRow, Row, value)

    def test_the_operators_against_plain_words(self):
        chance = random.Random(19)
        for _ in range(1000):
            words, others = random_row(chance), random_row(chance)
            row, other = Row(words), Row(others)
            with self.subTest(words=words, others=others):
                self.assert_row(row * other, tuple(nested_loops((words, others))))
                self.assert_row(row + other, words + others)
                self.assert_row((row * other) // other, words)
                self.assertIs(row == other, words == others)
                self.assertIs(row != other, words != others)
                self.assert_row(row, words)
                self.assert_row(other, others)

    def test_the_quotient_is_the_only_row_or_there_is_none(self):
        chance = random.Random(91)
        quotients = 0
        for _ in range(1500):
            words = tuple(nested_loops(random_product(chance)[:3]))
            others = chance.choice([random_row(chance), random_row(chance)[:2], (words[0][-1:],)])
            expected = [front for front, behind in plain_cuts(words, len(others)) if behind == others]
            row, other = Row(words), Row(others)
            quotients += len(expected)
            with self.subTest(words=words, others=others):
                if expected:
                    self.assert_row(row // other, expected[0])
                    self.assertTrue((row // other) * other == row)
                else:
                    self.assert_fails(NotAFactor, operator.floordiv, row, other)
        self.assertGreater(quotients, 300)

    def test_small_quotients(self):
        row = Row(WORDS)
        self.assert_row(row // Row(("c", "d")), ("a", "b"))
        self.assert_row(row // row, ("",))
        self.assert_row(row // Row(("",)), WORDS)
        self.assert_row(Row(("axc", "bxc")) // Row(("xc",)), ("a", "b"))
        for words in [("a", "b"), ("d", "c"), ("c",), WORDS + WORDS, ("c", "d", "c"), ("", ""), ("xac", "xad")]:
            with self.subTest(words):
                self.assert_fails(NotAFactor, operator.floordiv, row, Row(words))
        self.assert_fails(NotAFactor, operator.floordiv, Row(("b", "ab")), Row(("ab",)))

    def test_at_most_2000_words(self):
        forty, fifty, many = Row(("a",) * 40), Row(("b",) * 50), Row(("",) * 2000)
        self.assert_row(forty * fifty, ("ab",) * 2000)
        self.assert_row(many * Row(("c",)), ("c",) * 2000)
        self.assert_row(Row(("c",)) * many, ("c",) * 2000)
        self.assert_row(Row(("a",) * 1999) + Row(("b",)), ("a",) * 1999 + ("b",))
        self.assert_row(Row(("a",)) + Row(("b",) * 1999), ("a",) + ("b",) * 1999)
        longer = Row(("",) * 2001)
        for call, row, other in [
            (operator.mul, forty, Row(("b",) * 51)), (operator.mul, Row(("",) * 3), Row(("",) * 667)),
            (operator.mul, many, many), (operator.mul, longer, Row(("",))), (operator.mul, Row(("",)), longer),
            (operator.add, many, Row(("",))), (operator.add, Row(("",)), many), (operator.add, many, many),
            (operator.add, Row(("a",) * 1000), Row(("a",) * 1001)), (operator.add, longer, longer),
        ]:
            with self.subTest(call, many=(len(row), len(other))):
                self.assertEqual(self.assert_fails(TooMany, call, row, other).limit, 2000)

    def test_there_is_no_limit_for_quotients(self):
        self.assert_row(Row(("a",) * 6000) // Row(("a",) * 2), ("",) * 3000)
        self.assert_row(Row(("a",) * 6000) // Row(("a",) * 3000), ("", ""))
        self.assert_fails(NotAFactor, operator.floordiv, Row(("a",) * 6000), Row(("a",) * 7))

    def test_other_operands(self):
        for row in (Row(("a", "b")), Row(("",) * 2001)):
            for value in OTHER_VALUES + [Loops(PAIRS)]:
                for call in (operator.mul, operator.add, operator.floordiv):
                    with self.subTest(call, value=repr(value)):
                        self.assert_fails(NotARow, call, row, value)
            self.assertIn(row.words, [("a", "b"), ("",) * 2001])

    def test_equality_answers_for_any_value(self):
        row = Row(("a", "b"))
        for value in OTHER_VALUES + [Loops((("a", "b"),)), Row(("b", "a")), Row(("a",)), Row(("a", "b", "b"))]:
            with self.subTest(repr(value)):
                self.assertIs(row == value, False)
                self.assertIs(row != value, True)
        self.assertIs(row == Row(("a", "b")), True)
        self.assertIs(row != Row(("a", "b")), False)
        self.assertIs(row == row, True)
        self.assertIs(Row(WORDS) == Row(("a", "b")) * Row(("c", "d")), True)

    def test_length_and_items(self):
        chance = random.Random(5)
        for words in [random_row(chance) for _ in range(100)] + [LARGE_ROW, ("a", "b") * 1500]:
            row = Row(words)
            self.assertEqual(len(row), len(words))
            self.assertEqual([row[at] for at in range(len(words))], list(words))

    def test_numbers_of_no_word(self):
        row = Row(WORDS)
        for at in NO_INTEGERS + [-1, -4, 4, 5, 10 ** 100, -10 ** 100, slice(0, 2), slice(None), (0, 1), ANY]:
            with self.subTest(repr(at)):
                self.assert_fails(InvalidIndex, operator.getitem, row, at)

    def test_words_that_are_in_it(self):
        row = Row(("ac", "", "b", "b"))
        for word in ("ac", "", "b"):
            self.assertIs(word in row, True)
            self.assertIs(word not in row, False)
        no_strings = [value for value in OTHER_VALUES if not isinstance(value, str)]
        for value in no_strings + WRONG_WORDS + ["a", "c", "bb", "acb", row, ("b",)]:
            with self.subTest(repr(value)):
                self.assertIs(value in row, False)
                self.assertIs(value not in row, True)
        self.assertIs("" in Row(("a",)), False)

    def test_it_is_not_iterated_over(self):
        row = Row(("a", "b"))
        for call in (iter, list, tuple, set, sorted, enumerate, "".join, lambda it: [word for word in it],
                     lambda it: [*it], lambda it: dict.fromkeys(it), min, any):
            with self.subTest(call):
                self.assert_fails(TypeError, call, row)
        with self.assertRaises(TypeError) as caught:
            first, second = row
        self.assertNotIsInstance(caught.exception, BraceError)

    def test_it_never_changes(self):
        row, other = Row(("a", "b")), Row(("c",))
        same = row
        row += other
        self.assert_row(same, ("a", "b"))
        self.assert_row(row, ("a", "b", "c"))
        row *= other
        self.assert_row(row, ("ac", "bc", "cc"))
        row //= other
        self.assert_row(row, ("a", "b", "c"))
        with self.assertRaises(AttributeError):
            row.words = ("z",)
        with self.assertRaises(TypeError):
            row[0] = "z"
        self.assert_row(other, ("c",))


class LoopsObjects(ErrorCase):
    def assert_loops(self, found, factors):
        self.assertIs(type(found), Loops)
        self.assertEqual(found.factors, factors)
        self.assertIs(type(found.factors), tuple)

    def assert_equal(self, product, other, expected):
        for one, two in ((Loops(product), Loops(other)), (Loops(other), Loops(product))):
            self.assertIs(one == two, expected)
            self.assertIs(one != two, not expected)

    def test_factors(self):
        for product in [(("",),), PAIRS, SIXES, LARGE, EMPTY_WORDS]:
            self.assert_loops(Loops(product), product)

    def test_wrong_products(self):
        for value in WRONG_PRODUCTS:
            with self.subTest(repr(value)):
                self.assert_fails(InvalidProduct, Loops, value)

    def test_it_is_called_with_the_number_of_a_word(self):
        chance = random.Random(20)
        for _ in range(300):
            product = random_product(chance)
            loops, words = Loops(product), nested_loops(product)
            with self.subTest(product):
                self.assertEqual([loops(index) for index in range(len(words))], words)
        loops = Loops(LARGE)
        for index in (0, 1, 60 ** 20 + 17, LARGE_COUNT - 1):
            self.assertEqual(loops(index), nth_word(LARGE, index))

    def test_numbers_of_no_word(self):
        for product, size in [(PAIRS, 4), ((("a",),), 1), (LARGE, LARGE_COUNT)]:
            loops = Loops(product)
            for index in NO_INTEGERS + [-1, size, size + 1, 10 ** 100, -10 ** 100, slice(0, 1)]:
                with self.subTest(product, index=repr(index)):
                    self.assert_fails(InvalidIndex, loops, index)

    def test_sums(self):
        chance = random.Random(21)
        for _ in range(200):
            product, other = random_product(chance), random_product(chance)
            loops, another = Loops(product), Loops(other)
            self.assert_loops(loops + another, product + other)
            self.assert_loops(loops, product)
            self.assert_loops(another, other)
        self.assert_loops(Loops(LARGE) + Loops(LARGE) + Loops(PAIRS), LARGE + LARGE + PAIRS)

    def test_other_operands(self):
        for value in OTHER_VALUES + [Row(("a", "b"))]:
            with self.subTest(repr(value)):
                self.assert_fails(NotLoops, operator.add, Loops(PAIRS), value)

    def test_equality_answers_for_any_value(self):
        loops = Loops((("a", "b"),))
        for value in OTHER_VALUES + [(("a", "b"),), Row(("a", "b"))]:
            with self.subTest(repr(value)):
                self.assertIs(loops == value, False)
                self.assertIs(loops != value, True)
        self.assertIs(loops == loops, True)

    def test_small_products_with_the_same_words(self):
        self.assert_equal(SIXES, OTHER_SIXES, True)
        self.assert_equal(PAIRS, (WORDS,), True)
        self.assert_equal((("a", "b"), ("x",), ("c", "d")), (("ax", "bx"), ("c", "d")), True)
        self.assert_equal(PAIRS, PAIRS[::-1], False)
        self.assert_equal(PAIRS, PAIRS + (("",),), True)
        self.assert_equal(PAIRS, PAIRS + (("", ""),), False)
        self.assert_equal((("a",),), (("a", "a"),), False)
        self.assert_equal(SIXES, (("", "xxxx"), ("", "x", "xx")), False)

    def test_equality_against_all_words(self):
        chance = random.Random(22)
        for _ in range(1000):
            product, other = random_product(chance), random_product(chance)
            with self.subTest(product=product, other=other):
                self.assert_equal(product, other, nested_loops(product) == nested_loops(other))
                self.assert_equal(product, recut(chance, product), True)

    def test_equality_of_large_products(self):
        self.assert_equal(LARGE, LARGE, True)
        self.assert_equal(LARGE, finest(LARGE), True)
        self.assert_equal(SIXES + LARGE[:36] + OTHER_SIXES, OTHER_SIXES + LARGE[:36] + SIXES, True)
        self.assert_equal(EMPTY_WORDS, (("",) * 30, ("",) * 2) * 40, True)
        self.assert_equal(EMPTY_WORDS, EMPTY_WORDS[1:] + (("",) * 59,), False)
        self.assert_equal(LARGE, changed(LARGE, 0, 59, coded(60)), False)
        self.assert_equal(LARGE, changed(LARGE, 39, 59, coded(60)), False)
        self.assert_equal(finest(LARGE), changed(LARGE, 20, 1, coded(60)), False)
        self.assert_equal(LARGE, LARGE[1:], False)

    def test_sums_that_are_passed_on(self):
        loops = Loops(SIXES) + Loops(LARGE)
        self.assertIs(loops == Loops(OTHER_SIXES) + Loops(LARGE), True)
        self.assertEqual(loops(6 * LARGE_COUNT - 1), "xxxxx" + coded(59) * 40)
        self.assert_fails(InvalidIndex, loops, 6 * LARGE_COUNT)

    def test_it_never_changes(self):
        loops = Loops(PAIRS)
        same = loops
        loops += Loops(SIXES)
        self.assert_loops(same, PAIRS)
        self.assert_loops(loops, PAIRS + SIXES)
        with self.assertRaises(AttributeError):
            loops.factors = PAIRS
