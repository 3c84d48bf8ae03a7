"""[18]: brace texts."""

import math
import random
import re

from braceloops.errors import InvalidProduct, InvalidText, TooMany
from braceloops.far import count_words
from braceloops.rows import written_out
from braceloops.steps import same_words
from braceloops.texts import expand, format_product, parse_product
from tests.helpers import (
    EMPTY_WORDS, LARGE, LARGE_ROW, WRONG_PRODUCTS, WRONG_TEXTS, ErrorCase, changed, nested_loops,
    random_product,
)

INNERMOST = re.compile(r"\{[a-z]*(?:,[a-z]*)+\}")
SIGNS = "{},ab"


def plain_is_text(value):
    """Return whether a string is a brace text, by taking off pairs of braces from inside."""
    while INNERMOST.search(value):
        value = INNERMOST.sub("", value)
    return re.fullmatch("[a-z]*", value) is not None


def plain_row(text):
    """Return the words of a brace text, by its first pair of braces and what is behind it."""
    if "{" not in text:
        return [text]
    start = text.index("{")
    depth, at, begins, parts = 1, start + 1, start + 1, []
    while depth > 0:
        if text[at] in ",}" and depth == 1:
            parts.append(text[begins:at])
            begins = at + 1
        depth += {"{": 1, "}": -1}.get(text[at], 0)
        at += 1
    front, behind = text[:start], plain_row(text[at:])
    return [front + word + ending for part in parts for word in plain_row(part) for ending in behind]


def random_items(chance, depth):
    """Return the structure of a text: words, and lists of alternatives, which are structures."""
    items = []
    for _ in range(chance.choice([0, 1, 1, 2, 3])):
        if depth == 0 or chance.random() < 0.5:
            items.append(chance.choice(["a", "b", "ab", "zy"]))
        else:
            many = chance.choice([2, 2, 3, 4])
            items.append([random_items(chance, depth - 1) for _ in range(many)])
    return items


def text_of(items):
    return "".join([
        item if isinstance(item, str) else "{" + ",".join(map(text_of, item)) + "}" for item in items
    ])


def words_of(items):
    rows = [[item] if isinstance(item, str) else sum(map(words_of, item), []) for item in items]
    return nested_loops(rows)


def count_of(items):
    return math.prod([1 if isinstance(item, str) else sum(map(count_of, item)) for item in items])


def factors_of(items):
    """Return the product that a structure stands for, words next to each other in one factor."""
    factors = []
    for item in items:
        row = (item,) if isinstance(item, str) else tuple(words_of([item]))
        if isinstance(item, str) and factors and factors[-1][1]:
            row = (factors.pop()[0][0] + item,)
        factors.append((row, isinstance(item, str)))
    return tuple(row for row, _ in factors) or (("",),)


def joined_words(product):
    """Return a product in which one-word factors next to each other are one, and none is empty."""
    factors = []
    for row in product:
        if len(row) == 1 and factors and len(factors[-1]) == 1:
            row = (factors.pop()[0] + row[0],)
        factors.append(row)
    return tuple(row for row in factors if row != ("",)) or (("",),)


def structures(many):
    """Return structures of texts that stand for at most 500 words."""
    chance = random.Random(18)
    found = []
    while len(found) < many:
        items = random_items(chance, chance.choice([0, 1, 2, 3, 4]))
        if count_of(items) <= 500:
            found.append(items)
    return found


class Texts(ErrorCase):
    def assert_text(self, text, row, product):
        self.assertEqual(expand(text), row)
        self.assertEqual(parse_product(text), product)
        self.assertIs(type(expand(text)), tuple)
        self.assertEqual({type(factor) for factor in parse_product(text)}, {tuple})

    def assert_invalid(self, text):
        self.assert_fails(InvalidText, expand, text)
        self.assert_fails(InvalidText, parse_product, text)

    def assert_one_factor_too_large(self, text):
        self.assertEqual(self.assert_fails(TooMany, expand, text).limit, 2000)
        self.assertEqual(self.assert_fails(TooMany, parse_product, text).limit, 2000)

    def test_small_texts(self):
        self.assert_text("", ("",), (("",),))
        self.assert_text("a", ("a",), (("a",),))
        self.assert_text("abc", ("abc",), (("abc",),))
        self.assert_text("{a,b}", ("a", "b"), (("a", "b"),))
        self.assert_text("{b,a,b}", ("b", "a", "b"), (("b", "a", "b"),))
        self.assert_text("{a,b}{c,d}", ("ac", "ad", "bc", "bd"), (("a", "b"), ("c", "d")))
        self.assert_text("ab{c,d}{,x}", ("abc", "abcx", "abd", "abdx"), (("ab",), ("c", "d"), ("", "x")))
        self.assert_text("{a,b}xy{c,d}z", ("axycz", "axydz", "bxycz", "bxydz"),
                         (("a", "b"), ("xy",), ("c", "d"), ("z",)))
        self.assert_text("abcdefghijklmnopqrstuvwxyz", ("abcdefghijklmnopqrstuvwxyz",),
                         (("abcdefghijklmnopqrstuvwxyz",),))

    def test_empty_alternatives(self):
        self.assert_text("{,}", ("", ""), (("", ""),))
        self.assert_text("{,,}", ("", "", ""), (("", "", ""),))
        self.assert_text("{a,}", ("a", ""), (("a", ""),))
        self.assert_text("{,a}b", ("b", "ab"), (("", "a"), ("b",)))
        self.assert_text("{{,},{,}}", ("",) * 4, (("",) * 4,))

    def test_braces_inside_braces(self):
        self.assert_text("x{a,b{c,}}", ("xa", "xbc", "xb"), (("x",), ("a", "bc", "b")))
        self.assert_text("{{a,b},c}", ("a", "b", "c"), (("a", "b", "c"),))
        self.assert_text("{c,{a,b}}", ("c", "a", "b"), (("c", "a", "b"),))
        self.assert_text("{a{b,c}d,e}f", ("abdf", "acdf", "ef"), (("abd", "acd", "e"), ("f",)))
        self.assert_text("{{a,b}{c,d},e}", ("ac", "ad", "bc", "bd", "e"), (("ac", "ad", "bc", "bd", "e"),))
        self.assert_text("{a,{b,{c,{d,}}}}", ("a", "b", "c", "d", ""), (("a", "b", "c", "d", ""),))

    def test_texts_that_are_not_allowed(self):
        for text in [
            ",", "a,b", ",a", "a,", "{a}", "{}", "{", "}", "{a,b", "a,b}", "{a,b}}", "{{a,b}",
            "{{a,b}}", "{{a},b}", "{a,{}}", "{a,b}{", "}{", "}a,b{", "{a,b},", "{a,b},{c,d}",
            "{a,b}{c}", "{a}{b,c}", "{a,b},c", "{,}}", "{{,}", "{,{}", "{{}}", "{{{a,b}},c}",
        ]:
            with self.subTest(text):
                self.assert_invalid(text)

    def test_every_other_sign(self):
        for code in [*range(128), 0xaa, 0xdf, 0xe9, 0x430, 0x1f600]:
            sign = chr(code)
            if not ("a" <= sign <= "z" or sign in "{},"):
                for text in (sign, "a" + sign, sign + "a", "{" + sign + ",}", "{a,b" + sign + "}"):
                    with self.subTest(text):
                        self.assert_invalid(text)

    def test_other_values(self):
        for value in WRONG_TEXTS:
            with self.subTest(repr(value)):
                self.assert_invalid(value)

    def test_against_their_structure(self):
        for items in structures(1500):
            text = text_of(items)
            with self.subTest(text):
                self.assert_text(text, tuple(words_of(items)), factors_of(items))

    def test_texts_with_one_sign_changed(self):
        valid = 0
        for items in structures(120):
            text = text_of(items)[:60]
            others = [text]
            for at in range(len(text) + 1):
                others.append(text[:at] + text[at + 1:])
                for sign in SIGNS:
                    others += [text[:at] + sign + text[at:], text[:at] + sign + text[at + 1:]]
            for other in others:
                with self.subTest(other):
                    if not plain_is_text(other):
                        self.assert_invalid(other)
                    else:
                        valid += 1
                        row = plain_row(other)
                        if len(row) <= 2000:
                            self.assertEqual(expand(other), tuple(row))
                            self.assertEqual(nested_loops(parse_product(other)), row)
        self.assertGreater(valid, 3000)

    def test_all_short_texts(self):
        texts = [""]
        for _ in range(7):
            texts = [text + sign for text in texts for sign in "{},a"] + [""]
            for text in texts:
                if plain_is_text(text):
                    self.assertEqual(expand(text), tuple(plain_row(text)), text)
                    self.assertEqual(nested_loops(parse_product(text)), plain_row(text), text)
                else:
                    self.assert_invalid(text)

    def test_exactly_2000_words(self):
        commas = "{" + "," * 1999 + "}"
        self.assert_text(commas, ("",) * 2000, (("",) * 2000,))
        self.assert_text("x" + commas + "y", ("xy",) * 2000, (("x",), ("",) * 2000, ("y",)))
        forties, fifties = "{" + "," * 39 + "}", "{" + "," * 49 + "}"
        self.assert_text(forties + fifties, ("",) * 2000, (("",) * 40, ("",) * 50))
        inside = "{a," + forties + "{" + "," * 48 + "}" + "," * 39 + "}"
        self.assert_text(inside, ("a",) + ("",) * 1999, (("a",) + ("",) * 1999,))
        self.assert_text("{" + "{,}" * 10 + "," * 976 + "}", ("",) * 2000, (("",) * 2000,))
        self.assert_text("{" + "," * 976 + "{,}" * 10 + "}", ("",) * 2000, (("",) * 2000,))

    def test_one_factor_of_more_than_2000_words(self):
        forties, fifties = "{" + "," * 39 + "}", "{" + "," * 49 + "}"
        for text in [
            "{" + "," * 2000 + "}", "{a," + forties + fifties + "}", "{" + forties + fifties + ",a}",
            "{" + "{,}" * 10 + "," * 977 + "}", "{" + "," * 977 + "{,}" * 10 + "}", "{" + "{,}" * 11 + ",}",
            "{{" + forties + fifties + ",},}", "a{b," + "{,a}" * 700 + "}c", "{,{," + "{a,{b,c}}" * 300 + "}}",
            "{a,b}{c," + "{a,b}" * 590 + "}{d,e}", "{" * 40 + "{,}" * 11 + ",}" * 40,
        ]:
            with self.subTest(text):
                self.assertTrue(plain_is_text(text))
                self.assert_one_factor_too_large(text)

    def test_many_words_in_small_factors(self):
        for text, many in [
            ("{" + "," * 666 + "}{,,}", 2001), ("{,,}{" + "," * 666 + "}", 2001), ("{a,}" * 11, 2 ** 11),
            ("{a,b}" * 600, 2 ** 600), ("{,}" * 1000, 2 ** 1000), ("x{a,{b,c}}" * 300, 3 ** 300),
            ("{" + "," * 1999 + "}{,}", 4000), (("{" + "," * 1999 + "}") * 2, 2000 ** 2),
        ]:
            with self.subTest(text):
                self.assertEqual(self.assert_fails(TooMany, expand, text).limit, 2000)
                self.assertEqual(count_words(parse_product(text)), many)

    def test_a_wrong_text_comes_before_too_many_words(self):
        for large in ("{a,b}" * 590, "{a," + "{a,b}" * 590 + "}", "{" + "," * 2500 + "}"):
            for text in (large + ",", large + "}", large + "{", large + "{a}", large + "A", "," + large,
                         large + "{b,c", "{" + large + "}", " " + large, large + "\n"):
                with self.subTest(text):
                    self.assert_invalid(text)

    def test_deep_texts(self):
        for depth in (1, 2, 39, 40, 41, 60, 900):
            words = tuple("x" * number for number in range(1, depth + 1)) + ("x" * depth + "y",)
            text = "x{," * depth + "y" + "}" * depth
            with self.subTest(depth):
                self.assert_text(text, words, (("x",), tuple(word[1:] for word in words)))
                self.assert_text("{" * depth + "a" + ",b}" * depth, ("a",) + ("b",) * depth,
                                 (("a",) + ("b",) * depth,))
                self.assert_invalid(text[:-1])
                self.assert_invalid(text + "}")
                self.assert_invalid("{" + text + "}")

    def test_long_texts(self):
        self.assert_text("ab" * 1500, ("ab" * 1500,), (("ab" * 1500,),))
        self.assertEqual(expand("{a,b}" * 10 + "c" * 2950)[-1], "b" * 10 + "c" * 2950)
        text = "{" + ",".join(["abc"] * 749) + "}"
        self.assert_text(text, ("abc",) * 749, (("abc",) * 749,))
        self.assertEqual(parse_product("x{a,b}" * 500), (("x",), ("a", "b")) * 500)


class FormatProduct(ErrorCase):
    def test_small_products(self):
        for product, text in [
            ((("",),), ""), ((("a",),), "a"), ((("a",), ("b",)), "ab"), ((("", ""),), "{,}"),
            ((("a", "b"),), "{a,b}"), ((("a", "b"), ("c", "d")), "{a,b}{c,d}"),
            ((("", "xx", "xxxx"), ("", "x")), "{,xx,xxxx}{,x}"), ((("ab",), ("c", "d"), ("",)), "ab{c,d}"),
            ((("a", "b"), ("xy",), ("z",), ("c", "")), "{a,b}xyz{c,}"), ((("",), ("",)), ""),
        ]:
            with self.subTest(product):
                self.assertEqual(format_product(product), text)
                self.assertEqual(parse_product(text), joined_words(product))

    def test_there_and_back(self):
        chance = random.Random(81)
        for _ in range(2000):
            product = random_product(chance)
            text = format_product(product)
            with self.subTest(product):
                self.assertEqual(plain_row(text), nested_loops(product))
                self.assertEqual(expand(text), written_out(product))
                self.assertEqual(parse_product(text), joined_words(product))

    def test_back_and_there(self):
        for items in structures(500):
            product = parse_product(text_of(items))
            with self.subTest(product):
                self.assertEqual(parse_product(format_product(product)), product)

    def test_large_products(self):
        for product in (LARGE, EMPTY_WORDS, changed(LARGE, 7, 3, "zz"), LARGE + (("a",), ("b",)) * 3):
            with self.subTest(len(product)):
                text = format_product(product)
                self.assertEqual(parse_product(text), joined_words(product))
                self.assertTrue(same_words(parse_product(text), product))
                self.assert_fails(TooMany, expand, text)
        self.assertEqual(format_product((LARGE_ROW,)), "{" + ",".join(LARGE_ROW) + "}")

    def test_rows_that_the_package_returns(self):
        row = written_out((LARGE_ROW, LARGE_ROW[:33]))
        text = format_product((row, ("x",)))
        self.assertEqual(parse_product(text), (row, ("x",)))
        self.assertEqual(expand(text), tuple(word + "x" for word in row))
        text = format_product((row + ("a",) * 21,))
        self.assertEqual(self.assert_fails(TooMany, parse_product, text).limit, 2000)
        many = parse_product("{,}" * 1000)
        self.assertEqual(parse_product(format_product(many * 3)), many * 3)

    def test_wrong_products(self):
        for value in WRONG_PRODUCTS:
            with self.subTest(repr(value)):
                self.assert_fails(InvalidProduct, format_product, value)
