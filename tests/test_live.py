"""[21] and [22]: live products of all four kinds."""

import random
import sys

from braceloops.errors import (
    InvalidIndex, InvalidProduct, InvalidRow, InvalidText, LastFactor, NotAscending, NothingToUndo,
    TooMany,
)
from braceloops.finest import finest
from braceloops.kinds import AscendingCountingProduct, AscendingProduct, CountingProduct
from braceloops.live import LiveProduct
from braceloops.rows import size_of
from braceloops.texts import parse_product
from tests.helpers import (
    EMPTY_WORDS, LARGE, LARGE_COUNT, LARGE_ROW, NO_INTEGERS, WRONG_PRODUCTS, WRONG_ROWS, WRONG_TEXTS,
    changed, coded, nested_loops, plain_drop, random_product,
)
from tests.live_case import ASCENDING, COUNTING, KINDS, LiveCase

PAIRS = (("a", "b"), ("c", "d"))
WRONG_MOST = NO_INTEGERS + [0, -1, -10 ** 100]


class LiveProducts(LiveCase):
    def test_the_four_kinds(self):
        self.assertTrue(issubclass(AscendingProduct, LiveProduct))
        self.assertTrue(issubclass(CountingProduct, LiveProduct))
        self.assertTrue(issubclass(AscendingCountingProduct, AscendingProduct))
        self.assertTrue(issubclass(AscendingCountingProduct, CountingProduct))
        self.assertFalse(issubclass(AscendingProduct, CountingProduct))
        self.assertFalse(issubclass(CountingProduct, AscendingProduct))
        for kind in KINDS:
            self.assertEqual(kind.LETTERS, "abcdefghijklmnopqrstuvwxyz")
            self.assertEqual(kind().LETTERS, "abcdefghijklmnopqrstuvwxyz")

    def test_a_new_object(self):
        for kind in KINDS:
            self.assert_state(kind(), (("",),), 0)
            self.assert_state(kind(PAIRS), PAIRS, 0)
        self.assert_state(LiveProduct(LARGE), LARGE, 0)
        self.assert_state(AscendingProduct(LARGE), LARGE, 0)
        self.assert_state(CountingProduct(LARGE, LARGE_COUNT), LARGE, 0, LARGE_COUNT)
        self.assert_state(AscendingCountingProduct(LARGE, 10 ** 100 - 1), LARGE, 0, 10 ** 100 - 1)

    def test_two_objects_do_not_disturb_each_other(self):
        for kind in KINDS:
            one, two = kind(), kind()
            one.put_last(("a", "b"))
            self.assert_state(two, (("",),), 0)
            two.put_first(("x",))
            two.drop()
            self.assert_state(one, (("",), ("a", "b")), 1)
            self.assert_state(two, (("x",),), 2)
            self.assert_state(kind(), (("",),), 0)

    def test_calls_and_undo(self):
        for kind in KINDS:
            live = kind((("c", "d"),))
            self.assertIsNone(live.put_last(("x",)))
            self.assertIsNone(live.put_first(("a", "b")))
            self.assert_state(live, (("a", "b"), ("c", "d"), ("x",)), 2)
            self.assertEqual(live.drop(), ("x",))
            self.assert_state(live, (("a", "b"), ("c", "d")), 3)
            self.assertEqual(live.undo(), "drop")
            self.assert_state(live, (("a", "b"), ("c", "d"), ("x",)), 2)
            self.assertEqual(live.undo(), "put_first")
            self.assert_state(live, (("c", "d"), ("x",)), 1)
            live.put_last(("y", "z"))
            self.assertEqual([live.undo(), live.undo()], ["put_last", "put_last"])
            self.assert_state(live, (("c", "d"),), 0)

    def test_the_only_factor_is_not_dropped(self):
        for kind in KINDS:
            live = kind((("a", "b"),))
            self.assert_fails(LastFactor, live.drop)
            self.assert_state(live, (("a", "b"),), 0)
            live.put_first(("",))
            self.assertEqual(live.drop(), ("a", "b"))
            self.assert_fails(LastFactor, live.drop)
            self.assert_state(live, (("",),), 2)

    def test_nothing_to_undo(self):
        for kind in KINDS:
            live = kind(PAIRS)
            self.assert_fails(NothingToUndo, live.undo)
            live.put_last(("",))
            live.undo()
            self.assert_fails(NothingToUndo, live.undo)
            self.assert_state(live, PAIRS, 0)
            live.try_rows(("",))
            self.assert_fails(NothingToUndo, live.undo)

    def test_wrong_products(self):
        for value in WRONG_PRODUCTS:
            for kind in KINDS:
                with self.subTest(kind, value=repr(value)):
                    self.assert_fails(InvalidProduct, kind, value)

    def test_wrong_rows(self):
        for kind in KINDS:
            live = kind(PAIRS)
            for value in WRONG_ROWS:
                with self.subTest(kind, value=repr(value)):
                    self.assert_fails(InvalidRow, live.put_last, value)
                    self.assert_fails(InvalidRow, live.put_first, value)
                    self.assert_fails(InvalidRow, live.try_rows, value)
                    self.assert_fails(InvalidRow, live.try_rows, ("",), value, ("x",))
                    self.assert_fails(InvalidRow, live.try_rows, value, ("b", "a"))
            self.assert_state(live, PAIRS, 0)

    def test_try_rows(self):
        for kind in KINDS:
            live = kind(PAIRS)
            self.assertEqual(live.try_rows(), [])
            self.assertEqual(live.try_rows(("x", "y"), ("",), ("a", "b", "c")), [8, 8, 24])
            self.assertEqual(live.try_rows(*[("",)] * 20), [4] * 20)
            found = live.try_rows(("",))
            found.append(0)
            self.assertEqual(live.try_rows(("",)), [4])
            self.assert_state(live, PAIRS, 0)
            live.put_last(("e", "f"))
            self.assertEqual(live.try_rows(("x", "y")), [16])
            self.assert_state(live, PAIRS + (("e", "f"),), 1)
        self.assertEqual(LiveProduct(LARGE).try_rows(LARGE_ROW, LARGE_ROW), [60 ** 41, 60 ** 42])

    def test_is_valid_answers_for_any_value(self):
        for kind in KINDS:
            for product in (PAIRS, (("",),), LARGE, (("b", "a"),), EMPTY_WORDS):
                self.assertIs(kind.is_valid(product), True)
            for value in WRONG_PRODUCTS + NO_INTEGERS + [LiveProduct(), ("a", "b")]:
                with self.subTest(kind, value=repr(value)):
                    self.assertIs(kind.is_valid(value), False)
            self.assertIs(kind().is_valid(PAIRS), True)
            self.assertIs(kind().is_valid("a"), False)

    def test_finest_form(self):
        chance = random.Random(23)
        for _ in range(200):
            product = random_product(chance)
            live = LiveProduct(product)
            self.assertEqual(live.finest_form(), finest(product))
            self.assertEqual(nested_loops(live.finest_form()), nested_loops(product))
            self.assert_state(live, product, 0)
        live = LiveProduct((("", "x"),))
        live.put_first(("", "xx"))
        self.assertEqual(live.finest_form(), (("", "x", "xx", "xxx"),))
        live.drop()
        self.assertEqual(live.finest_form(), (("", "xx"),))
        live = LiveProduct(EMPTY_WORDS)
        self.assert_refused((TooMany, 2000), live.finest_form)
        self.assert_state(live, EMPTY_WORDS, 0)
        self.assert_refused((TooMany, 2000), CountingProduct(EMPTY_WORDS, LARGE_COUNT).finest_form)

    def test_told_lists_are_new_ones(self):
        for kind in KINDS:
            live = kind(PAIRS)
            live.told().append("more")
            self.assert_state(live, PAIRS, 0)

    def test_told_numbers_of_thousands_of_digits(self):
        # Python writes out no more than some thousands of digits, if it is not told to.
        limit = sys.get_int_max_str_digits()
        ten = (("",) * 10,)
        for product in (ten * 60, ten * 119, ten * 121 + PAIRS, EMPTY_WORDS * 100, (LARGE_ROW,) * 4000):
            found = [LiveProduct(product).told(), CountingProduct(product, size_of(product) + 7).told()]
            sys.set_int_max_str_digits(0)
            told = [f"factors {len(product)}", f"words {size_of(product)}"]
            more = told + [f"most {size_of(product) + 7}"]
            sys.set_int_max_str_digits(limit)
            self.assertEqual(found, [told, more])


class Reading(LiveCase):
    def test_an_object_of_its_own_class(self):
        for kind in KINDS:
            for text in ("", "a", "ab{c,d}", "{a,b}{c,d}", "x{a,b{c,d}}{y,z}"):
                with self.subTest(kind, text=text):
                    live = kind.read(text)
                    self.assertIs(type(live), kind)
                    self.assert_state(live, parse_product(text), 0)
                    self.assertIs(type(kind(PAIRS).read(text)), kind)

    def test_it_can_be_changed(self):
        for kind in KINDS:
            live = kind.read("{a,b}")
            live.put_last(("c", "d"))
            self.assert_state(live, PAIRS, 1)
            self.assert_undone(live, [(PAIRS[:1], "put_last")])

    def test_wrong_texts(self):
        for kind in KINDS:
            for value in WRONG_TEXTS + ["{a}", ",", "{,}" * 900 + ",", "{b,a}{", "{" + "{,}" * 12 + ",}}"]:
                with self.subTest(kind, value=repr(value)):
                    self.assert_fails(InvalidText, kind.read, value)

    def test_too_many_words_in_a_factor(self):
        for kind in KINDS:
            self.assert_refused((TooMany, 2000), kind.read, "{" + "," * 2000 + "}")
            self.assert_refused((TooMany, 2000), kind.read, "{a," + "{a,b}" * 500 + "}{b,a}")

    def test_what_the_kinds_do_not_let_in(self):
        for text, many, drop in [
            ("{b,a}", 2, 1), ("{,}", 2, 1), ("{a,b}{d,c}", 4, 1), ("{b,a}{c,d}", 4, 2),
            ("{a,b}" * 9, 2 ** 9, None), ("{a,b}" * 10, 2 ** 10, None), ("{a,b}" * 500, 2 ** 500, None),
            ("{b,a}" + "{a,b}" * 8, 2 ** 9, 2 ** 8), ("{b,a}" + "{a,b}" * 9, 2 ** 10, 2 ** 9),
            ("{" + "," * 999 + "}", 1000, 1), ("{" + "," * 1000 + "}", 1001, 1),
        ]:
            for kind in KINDS:
                with self.subTest(kind, text=text):
                    if kind in COUNTING and many > 1000:
                        self.assert_refused((TooMany, 1000), kind.read, text)
                    elif kind in ASCENDING and drop is not None:
                        self.assert_refused((NotAscending, drop), kind.read, text)
                    else:
                        self.assert_state(kind.read(text), parse_product(text), 0)


class AscendingKinds(LiveCase):
    def test_the_constructors(self):
        for kind in ASCENDING:
            for product in ((("b", "a"),), (("a", "b"), ("c", "c")), (("a", "b"), ("d", "c")), (("", ""),),
                            (("b", "a"), ("c", "d")), (("a", "ab"), ("c", "d")), (("", "x"), ("", "x"))):
                with self.subTest(kind, product=product):
                    drop = plain_drop(nested_loops(product))
                    self.assert_refused((NotAscending, drop), kind, product)
        self.assert_refused((NotAscending, 7 * 60 ** 36), AscendingProduct, changed(LARGE, 3, 7, coded(6)))
        self.assert_refused((NotAscending, 1), AscendingProduct, EMPTY_WORDS)

    def test_each_call_that_would_not_be_ascending(self):
        for kind in ASCENDING:
            live = kind((("ab", "a"), ("x",)))
            self.assert_refused((NotAscending, 1), live.drop)
            self.assert_refused((NotAscending, 2), live.put_first, ("b", "a"))
            self.assert_refused((NotAscending, 1), live.put_last, ("b", "a"))
            self.assert_refused((NotAscending, 2), live.put_last, ("a", "b", "b"))
            self.assert_refused((NotAscending, 2), live.put_first, ("", ""))
            self.assert_refused((NotAscending, 3), live.try_rows, ("",), ("a", "b", "c", "a")[:3] + ("c",))
            self.assert_state(live, (("ab", "a"), ("x",)), 0)
            live.put_last(("y", "z"))
            self.assertEqual(live.drop(), ("y", "z"))
            self.assert_refused((NotAscending, 1), live.drop)
            self.assert_state(live, (("ab", "a"), ("x",)), 2)

    def test_the_first_row_that_fails_decides(self):
        for kind in ASCENDING:
            live = kind((("ab", "a"),) + (("x",),))
            self.assert_refused((NotAscending, 1), live.try_rows, ("b", "a"), ["a"])
            self.assert_refused((InvalidRow, None), live.try_rows, ("a", "b"), ["a"], ("b", "a"))
            # What comes behind would make it ascending, but not in time.
            live = kind((("a", "b"),))
            self.assert_refused((NotAscending, 1), live.try_rows, ("ab", "a"), ("x",))
            self.assert_refused((NotAscending, 1), live.put_last, ("ab", "a"))
            self.assertEqual(live.try_rows(("abx", "ax")), [4])
            self.assert_state(live, (("a", "b"),), 0)

    def test_undo_leads_back_past_what_drop_would_not(self):
        for kind in ASCENDING:
            live = kind((("x",),))
            live.put_first(("ab", "a"))
            self.assert_refused((NotAscending, 1), live.drop)
            self.assertEqual(live.undo(), "put_first")
            self.assert_state(live, (("x",),), 0)

    def test_the_last_factor_comes_before_the_order(self):
        for kind in ASCENDING:
            self.assert_fails(LastFactor, kind((("a", "b"),)).drop)


class CountingKinds(LiveCase):
    def test_exactly_as_many_words(self):
        for kind in COUNTING:
            self.assert_state(kind(PAIRS, 4), PAIRS, 0, 4)
            self.assert_refused((TooMany, 3), kind, PAIRS, 3)
            self.assert_refused((TooMany, 1), kind, PAIRS, 1)
            self.assert_state(kind((("a",),), 1), (("a",),), 0, 1)
            self.assert_refused((TooMany, 60 ** 40 - 1), kind, LARGE, 60 ** 40 - 1)
            self.assert_state(kind(LARGE, 60 ** 40), LARGE, 0, 60 ** 40)
            self.assert_state(kind(most=1), (("",),), 0, 1)
            live = kind((("a", "b"),), 6)
            live.put_last(("c", "d", "e"))
            self.assert_refused((TooMany, 6), live.put_last, ("x", "y"))
            self.assert_refused((TooMany, 6), live.put_first, ("x", "y"))
            self.assert_refused((TooMany, 6), live.try_rows, ("x",), ("x", "y"))
            self.assertEqual(live.try_rows(("x",), ("y",)), [6, 6])
            self.assert_state(live, (("a", "b"), ("c", "d", "e")), 1, 6)
            live.put_first(("x",))
            live.drop()
            live.put_last(("f", "g"))
            self.assert_state(live, (("x",), ("a", "b"), ("f", "g")), 4, 6)

    def test_the_default_limit(self):
        thousand = tuple("x" * number for number in range(1000))
        for kind in COUNTING:
            self.assert_state(kind((thousand,)), (thousand,), 0, 1000)
            self.assert_refused((TooMany, 1000), kind, (thousand + ("y",),))
            live = kind((thousand[:501],))
            self.assert_refused((TooMany, 1000), live.put_first, ("a", "b"))
            self.assert_state(live, (thousand[:501],), 0, 1000)

    def test_wrong_limits_after_wrong_products(self):
        for kind in COUNTING:
            for most in WRONG_MOST:
                with self.subTest(kind, most=repr(most)):
                    self.assert_fails(InvalidIndex, kind, PAIRS, most)
                    self.assert_fails(InvalidIndex, kind, (("b", "a"),), most)
                    self.assert_fails(InvalidIndex, kind, LARGE, most=most)
                    self.assert_fails(InvalidProduct, kind, [("a",)], most)
                    self.assert_fails(InvalidProduct, kind, (("a", "B"),), most=most)
            for value in WRONG_PRODUCTS:
                with self.subTest(kind, value=repr(value)):
                    self.assert_fails(InvalidProduct, kind, value, 1)
                    self.assert_fails(InvalidProduct, kind, value, 0)

    def test_the_limit_comes_before_the_order_and_behind_the_row(self):
        falling = (("b", "a"), ("d", "c"))
        self.assert_refused((TooMany, 3), AscendingCountingProduct, falling, 3)
        self.assert_refused((NotAscending, 1), AscendingCountingProduct, falling, 4)
        live = AscendingCountingProduct(PAIRS, 7)
        self.assert_refused((TooMany, 7), live.put_last, ("b", "a"))
        self.assert_refused((TooMany, 7), live.put_first, ("b", "a"))
        self.assert_refused((TooMany, 7), live.try_rows, ("b", "a"))
        self.assert_refused((InvalidRow, None), live.put_last, ("b", "a", 0))
        self.assert_refused((InvalidRow, None), live.put_first, ("b", "a", "A"))
        live = AscendingCountingProduct(PAIRS, 8)
        self.assert_refused((NotAscending, 1), live.put_last, ("b", "a"))
        self.assert_refused((NotAscending, 4), live.put_first, ("b", "a"))
        self.assert_refused((TooMany, 8), live.try_rows, ("a", "b"), ("b", "a"))
        self.assert_refused((NotAscending, 1), live.try_rows, ("b", "a"), ("a", "b"))
        self.assert_state(live, PAIRS, 0, 8)

    def test_limits_of_many_digits(self):
        most = 10 ** 100 - 1
        live = AscendingCountingProduct(LARGE[:10], most)
        for _ in range(46):
            live.put_last(LARGE_ROW)
        self.assert_state(live, (LARGE_ROW,) * 56, 46, most)
        self.assert_refused((TooMany, most), live.put_last, LARGE_ROW)
        self.assertEqual(live.try_rows(("a",)), [60 ** 56])
        self.assert_undone(live, [((LARGE_ROW,) * many, "put_last") for many in range(10, 56)])
