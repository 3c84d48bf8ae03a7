"""Over the whole program: what the modules say of the same words agrees."""

import itertools
import operator
import random

from braceloops.errors import (
    InvalidIndex, InvalidProduct, InvalidRow, InvalidText, NotAFactor, NotAscending, TooMany,
)
from braceloops.far import count_words, nth_word, total_letters, words_from
from braceloops.finest import (
    count_finest, count_right_sizes, finest, finest_sizes, is_right_size, is_run, left_quotient,
    right_quotient,
)
from braceloops.kinds import AscendingCountingProduct, AscendingProduct, CountingProduct
from braceloops.live import LiveProduct
from braceloops.objects import Loops, Row
from braceloops.occurrences import count_of, double, has_double, nth_place, places
from braceloops.order import first_drop, is_ascending, place_of
from braceloops.rows import is_product, is_row, multiply, written_out
from braceloops.sizes import right_sizes, split, why_not
from braceloops.steps import commute, first_difference, same_words, step, step_at
from braceloops.texts import expand, format_product, parse_product
from tests.helpers import (
    EMPTY_WORDS, LARGE, LARGE_COUNT, LARGE_ROW, WRONG_PRODUCTS, WRONG_ROWS, ErrorCase, changed, coded,
    nested_loops, random_product, recut, run_factors,
)

SIXES, OTHER_SIXES = (("", "xx", "xxxx"), ("", "x")), (("", "xxx"), ("", "x", "xx"))


def small_products(seed, many):
    """Return products of at most 200 words, with runs, falling rows and ascending ones."""
    chance = random.Random(seed)
    found = []
    while len(found) < many:
        product = random_product(chance)
        if chance.random() < 0.3:
            product += run_factors(chance, chance.choice([4, 6, 12]))
        if chance.random() < 0.4:
            product = tuple(tuple(sorted(set(row))) for row in product)
        if count_words(product) <= 200:
            found.append(product)
    return found


class SmallProducts(ErrorCase):
    """Each test takes products and their words, as nested loops make them."""

    def each_product(self, seed, many):
        for product in small_products(seed, many):
            with self.subTest(product):
                yield product, tuple(nested_loops(product))

    def test_the_words(self):
        for product, row in self.each_product(31, 400):
            size, loops, live = len(row), Loops(product), LiveProduct(product)
            self.assertTrue(is_product(product) and is_row(row) and LiveProduct.is_valid((row,)))
            self.assertEqual(written_out(product), row)
            self.assertEqual(multiply(*product), row)
            self.assertEqual(tuple(words_from(product, 0)), row)
            self.assertEqual(expand(format_product(product)), row)
            self.assertEqual(expand(format_product((row,))), row)
            self.assertEqual(tuple(map(loops, range(size))), row)
            self.assertEqual(tuple(Row(row)[at] for at in range(size)), row)
            self.assertEqual([count_words(product), live.word_count, len(Row(row))], [size] * 3)
            self.assertEqual(total_letters(product), len("".join(row)))
            self.assertEqual(live.told(), [f"factors {len(product)}", f"words {size}"])
            self.assert_fails(InvalidIndex, loops, size)
            self.assert_fails(InvalidIndex, nth_word, product, size)
            self.assert_fails(InvalidIndex, operator.getitem, Row(row), size)

    def test_the_same_words_in_other_factors(self):
        chance = random.Random(32)
        for product, row in self.each_product(32, 300):
            texts = [format_product(each) for each in (product, (row,), finest(product))]
            forms = [(row,), finest(product), recut(chance, product)]
            forms += [parse_product(text) for text in texts]
            forms += [CountingProduct.read(text).factors_now for text in texts]
            forms += [LiveProduct(product).finest_form(), product + (("",),), (("",),) + product]
            for form in forms:
                self.assertTrue(Loops(form) == Loops(product))
                self.assertFalse(Loops(form) != Loops(product))
                self.assertIsNone(first_difference(product, form))
                self.assertEqual(finest(form), finest(product))
                self.assertEqual(count_finest(form), count_finest(product))
                self.assertEqual(first_drop(form), first_drop(product))

    def test_other_words(self):
        for (product, row), (other, others) in itertools.pairwise(self.each_product(33, 400)):
            same = row == others
            self.assertIs(Loops(product) == Loops(other), same)
            self.assertIs(same_words(product, other), same)
            self.assertIs(Row(row) == Row(others), same)
            self.assertIs(finest(product) == finest(other), same)
            self.assertIs(expand(format_product(product)) == expand(format_product(other)), same)
            if not same:
                at = first_difference(product, other)
                self.assertEqual(row[:at], others[:at])
                self.assertNotEqual(row[at:at + 1], others[at:at + 1])

    def test_rows_as_objects_and_as_tuples(self):
        for (product, _), (other, _) in itertools.pairwise(self.each_product(34, 300)):
            row, others = product[0], other[-1]
            joint = Row(row) * Row(others)
            self.assertEqual(joint.words, multiply(row, others))
            self.assertEqual((joint // Row(others)).words, right_quotient(joint.words, others))
            self.assertEqual(left_quotient(joint.words, row), others)
            self.assertIs(joint == Row(others) * Row(row), commute(row, others))
            self.assertTrue(Loops((row,)) + Loops((others,)) == Loops((joint.words,)))
            self.assertEqual(expand("{" + ",".join([*row, *others]) + "}"), (Row(row) + Row(others)).words)
            self.assertEqual(LiveProduct((row,)).try_rows(others), [len(joint)])

    def test_sizes_and_splits(self):
        for product, row in self.each_product(35, 250):
            sizes = right_sizes(row)
            self.assertEqual(count_right_sizes(product), len(sizes))
            for size in range(1, len(row) + 2):
                right = size in sizes
                self.assertIs(is_right_size(product, size), right)
                self.assertIs(why_not(row, size) is None, right)
                if right:
                    front, behind = split(row, size)
                    self.assertTrue(Row(front) * Row(behind) == Row(row))
                    self.assertTrue(Row(row) // Row(behind) == Row(front))
                    self.assertTrue(Loops((front, behind)) == Loops(product))
                else:
                    self.assert_fails(NotAFactor, operator.floordiv, Row(row), Row(("",) * size))
            behind = 1
            for many in finest_sizes(product)[::-1]:
                behind *= many
                self.assertIn(behind, sizes)
            self.assertEqual(is_run(row), len(finest(product)) == 1 and is_run(finest(product)[0]))

    def test_steps(self):
        for product, row in self.each_product(36, 150):
            loops = Loops(product)
            for index in range(1, len(row)):
                self.assertEqual(step_at(product, index), step(loops(index - 1), loops(index)))
                self.assertEqual(step_at(finest(product), index), step(row[index - 1], row[index]))

    def test_the_order(self):
        for product, row in self.each_product(37, 400):
            drop = first_drop(product)
            size = len(row)
            self.assertIs(is_ascending(product), drop is None)
            if drop is None:
                text = format_product(product)
                for live in (AscendingProduct(product), AscendingProduct.read(text), AscendingProduct((row,)),
                             AscendingCountingProduct(product, size), AscendingCountingProduct.read(text)):
                    self.assertEqual(live.finest_form(), finest(product))
                self.assertFalse(has_double(product))
                self.assertEqual([place_of(product, word) for word in row], list(range(size)))
            else:
                self.assertEqual(self.assert_fails(NotAscending, place_of, product, row[0]).index, drop)
                self.assertEqual(self.assert_fails(NotAscending, AscendingProduct, product).index, drop)
                self.assertEqual(self.assert_fails(NotAscending, AscendingProduct, (row,)).index, drop)
                text = format_product(product)
                self.assertEqual(self.assert_fails(NotAscending, AscendingProduct.read, text).index, drop)

    def test_the_occurrences(self):
        for product, row in self.each_product(38, 200):
            live, loops = LiveProduct(product), Loops(product)
            for word in sorted(set(row)) + ["", "x", "xxy", "q"]:
                found = list(places(product, word))
                self.assertEqual(count_of(live.factors_now, word), len(found))
                self.assertEqual(list(places(live.finest_form(), word)), found)
                self.assertEqual([loops(place) for place in found], [word] * len(found))
                self.assertIs(word in Row(row), len(found) > 0)
                self.assertEqual([nth_place(product, word, at) for at in range(len(found))], found)
            pair = double(product)
            self.assertIs(pair is not None, len(set(row)) < len(row))
            self.assertIs(has_double(live.finest_form()), pair is not None)
            if pair is not None:
                self.assertEqual(loops(pair[0]), loops(pair[1]))

    def test_live_products_that_grow_to_the_same_words(self):
        for product, row in self.each_product(39, 300):
            behind, front = LiveProduct(product[:1]), LiveProduct(product[-1:])
            counts = LiveProduct(product[:1]).try_rows(*product[1:])
            for factor in product[1:]:
                behind.put_last(factor)
            for factor in product[-2::-1]:
                front.put_first(factor)
            self.assertEqual(behind.factors_now, front.factors_now)
            self.assertTrue(Loops(behind.factors_now) == Loops((row,)))
            self.assertEqual([len(product[0]), *counts][-1], len(row))
            self.assertEqual(behind.finest_form(), finest((row,)))
            while len(behind) > 0:
                behind.undo()
            self.assertEqual(behind.factors_now, product[:1])

    def test_wrong_values_are_wrong_everywhere(self):
        for value in WRONG_PRODUCTS:
            for call in (written_out, count_words, finest, first_drop, has_double, format_product, Loops,
                         LiveProduct, AscendingProduct, CountingProduct, AscendingCountingProduct):
                self.assert_fails(InvalidProduct, call, value)
            self.assertFalse(is_product(value) or LiveProduct.is_valid(value))
        for value in WRONG_ROWS:
            for call in (multiply, right_sizes, is_run, Row, LiveProduct().put_last, LiveProduct().try_rows):
                self.assert_fails(InvalidRow, call, value)


class LargeProducts(ErrorCase):
    def test_the_same_words_in_other_factors(self):
        product = SIXES + LARGE[:36] + OTHER_SIXES
        other = OTHER_SIXES + LARGE[:36] + SIXES
        self.assertTrue(Loops(product) == Loops(other))
        self.assertEqual(LiveProduct(product).finest_form(), LiveProduct(other).finest_form())
        self.assertTrue(Loops(parse_product(format_product(product))) == Loops(finest(other)))
        self.assertEqual(count_right_sizes(product), count_right_sizes(other))
        twisted = changed(other, 1, 1, "xxxxxx")
        at = first_difference(product, twisted)
        self.assertFalse(Loops(product) == Loops(twisted))
        self.assertEqual(Loops(product)(at - 1), Loops(twisted)(at - 1))
        self.assertNotEqual(Loops(product)(at), Loops(twisted)(at))

    def test_ascending_ones(self):
        live = AscendingCountingProduct(LARGE[:20], LARGE_COUNT)
        for _ in range(20):
            live.put_first(LARGE_ROW)
        self.assertEqual(live.factors_now, LARGE)
        self.assertEqual(live.told(), ["factors 40", f"words {LARGE_COUNT}", "ascending", f"most {LARGE_COUNT}"])
        self.assertEqual(live.finest_form(), finest(LARGE))
        loops = Loops(live.factors_now)
        for number in (0, 17, 60 ** 25 + 1, LARGE_COUNT - 1):
            self.assertEqual(place_of(live.finest_form(), loops(number)), number)
        self.assertEqual(self.assert_fails(TooMany, live.put_last, ("", "a")).limit, LARGE_COUNT)
        live.put_last(("a",))
        self.assertEqual(self.assert_fails(NotAscending, AscendingProduct(LARGE).put_last, ("b", "a")).index, 1)
        twisted = changed(LARGE, 30, 9, coded(8))
        self.assertEqual(self.assert_fails(NotAscending, AscendingProduct, twisted).index, first_drop(twisted))

    def test_equal_words(self):
        live = CountingProduct(EMPTY_WORDS, LARGE_COUNT)
        self.assertTrue(Loops(EMPTY_WORDS) == Loops((("",) * 30, ("", "")) * 40))
        self.assertEqual(self.assert_fails(TooMany, live.finest_form).limit, 2000)
        self.assertEqual(count_of(live.factors_now, ""), live.word_count)
        text = format_product(EMPTY_WORDS)
        self.assertEqual(LiveProduct.read(text).factors_now, EMPTY_WORDS)
        self.assertEqual(self.assert_fails(TooMany, expand, text).limit, 2000)
        self.assertEqual(self.assert_fails(TooMany, CountingProduct.read, text).limit, 1000)
        self.assert_fails(InvalidText, LiveProduct.read, text + ",")

    def test_returned_values_are_passed_back(self):
        row = (Row(LARGE_ROW) * Row(LARGE_ROW[:33])).words
        loops = Loops((row,) * 40) + Loops(LARGE)
        self.assertEqual(count_words(loops.factors), 1980 ** 40 * LARGE_COUNT)
        live = LiveProduct(loops.factors)
        self.assertEqual(live.told()[0], "factors 80")
        self.assertEqual(live.try_rows(row), [1980 ** 41 * LARGE_COUNT])
        self.assertEqual(CountingProduct(loops.factors, live.word_count).word_count, live.word_count)
        word = loops(live.word_count - 1)
        self.assertEqual(step(word, word), ("", ""))
        self.assertEqual(place_of(loops.factors, word), live.word_count - 1)
        product = parse_product("x{a,b}" * 500)
        self.assertTrue(Loops(product) == Loops((("xa", "xb"),) * 500))
        self.assertEqual(parse_product(format_product(product)), product)
