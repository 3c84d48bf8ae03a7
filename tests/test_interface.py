"""The interface: names, arguments, and the files in which they are defined; [1] and [2]."""

import copy
import inspect
import unittest

from braceloops import far, finest, occurrences, order, rows, sizes, steps, texts

INTERFACE = {
    rows: {
        "is_row": ["value"], "is_product": ["value"], "multiply": ["row", "more"],
        "written_out": ["product"],
    },
    far: {
        "count_words": ["product"], "nth_word": ["product", "index"],
        "total_letters": ["product"], "words_from": ["product", "first"],
    },
    steps: {
        "step": ["word", "other"], "step_at": ["product", "index"],
        "first_difference": ["product", "other"], "same_words": ["product", "other"],
        "commute": ["row", "other"],
    },
    sizes: {
        "right_sizes": ["row"], "split": ["row", "size"], "why_not": ["row", "size"],
    },
    finest: {
        "is_run": ["row"], "finest": ["product"], "finest_sizes": ["product"],
        "count_finest": ["product"], "is_right_size": ["product", "size"],
        "count_right_sizes": ["product"], "right_quotient": ["row", "other"],
        "left_quotient": ["row", "other"],
    },
    order: {
        "is_ascending": ["product"], "first_drop": ["product"], "place_of": ["product", "word"],
    },
    occurrences: {
        "count_of": ["product", "word"], "nth_place": ["product", "word", "index"],
        "places": ["product", "word"], "has_double": ["product"], "double": ["product"],
    },
    texts: {"expand": ["text"], "parse_product": ["text"], "format_product": ["product"]},
}
PAIRS = (("a", "b"), ("c", "d"))
LETTERS = (("x", "", "x"), ("x", ""))
WORDS = ("ac", "ad", "bc", "bd")
# What each function is called with, and its answer.
CALLS = [
    (rows.is_row, {"value": ("a",)}, True),
    (rows.is_product, {"value": (("a",),)}, True),
    (rows.multiply, {"row": ("a", "b")}, ("a", "b")),
    (rows.written_out, {"product": PAIRS}, ("ac", "ad", "bc", "bd")),
    (far.count_words, {"product": PAIRS}, 4),
    (far.nth_word, {"product": PAIRS, "index": 1}, "ad"),
    (far.total_letters, {"product": PAIRS}, 8),
    (far.words_from, {"product": PAIRS, "first": 3}, ["bd"]),
    (steps.step, {"word": "ab", "other": "ac"}, ("b", "c")),
    (steps.step_at, {"product": PAIRS, "index": 2}, ("ad", "bc")),
    (steps.first_difference, {"product": PAIRS, "other": (("ac",),)}, 1),
    (steps.same_words, {"product": PAIRS, "other": (("ac",),)}, False),
    (steps.commute, {"row": ("a", "b"), "other": ("a", "b")}, True),
    (sizes.right_sizes, {"row": WORDS}, [1, 2, 4]),
    (sizes.split, {"row": WORDS, "size": 2}, PAIRS),
    (sizes.why_not, {"row": WORDS + WORDS[:2], "size": 3}, (4, 1)),
    (finest.is_run, {"row": WORDS}, False),
    (finest.finest, {"product": (WORDS,)}, PAIRS),
    (finest.finest_sizes, {"product": PAIRS}, [2, 2]),
    (finest.count_finest, {"product": PAIRS}, 1),
    (finest.is_right_size, {"product": PAIRS, "size": 2}, True),
    (finest.count_right_sizes, {"product": PAIRS}, 3),
    (finest.right_quotient, {"row": WORDS, "other": ("c", "d")}, ("a", "b")),
    (finest.left_quotient, {"row": WORDS, "other": ("a", "b")}, ("c", "d")),
    (order.is_ascending, {"product": PAIRS}, True),
    (order.first_drop, {"product": LETTERS}, 1),
    (order.place_of, {"product": PAIRS, "word": "bc"}, 2),
    (occurrences.count_of, {"product": LETTERS, "word": "x"}, 3),
    (occurrences.nth_place, {"product": LETTERS, "word": "x", "index": 1}, 2),
    (occurrences.places, {"product": LETTERS, "word": "x"}, [1, 2, 5]),
    (occurrences.has_double, {"product": LETTERS}, True),
    (occurrences.double, {"product": (("a", "", "b"), ("", "a"))}, (0, 3)),
    (texts.expand, {"text": "{a,b}{c,d}"}, WORDS),
    (texts.parse_product, {"text": "{a,b}{c,d}"}, PAIRS),
    (texts.format_product, {"product": PAIRS}, "{a,b}{c,d}"),
]


def answer(call, given, named):
    found = call(*given, **named)
    return list(found) if inspect.isgenerator(found) else found


class Interface(unittest.TestCase):
    def test_each_function_stands_in_its_file_with_its_arguments(self):
        for module, functions in INTERFACE.items():
            for name, arguments in functions.items():
                with self.subTest(name):
                    function = getattr(module, name)
                    self.assertTrue(inspect.isfunction(function))
                    self.assertEqual(function.__module__, module.__name__)
                    self.assertEqual(list(inspect.signature(function).parameters), arguments)

    def test_arguments_by_position_and_by_name(self):
        for call, named, expected in CALLS:
            with self.subTest(call.__name__):
                given = list(named.values())
                for found in (answer(call, given, {}), answer(call, [], named)):
                    self.assertEqual(found, expected)
                    self.assertIs(type(found), type(expected))
                backwards = dict(reversed(list(named.items())))
                self.assertEqual(answer(call, [], backwards), expected)
                self.assertEqual(answer(call, given[:1], dict(list(named.items())[1:])), expected)

    def test_the_same_call_gives_the_same_answer_again(self):
        for call, named, expected in CALLS + CALLS[::-1]:
            with self.subTest(call.__name__):
                self.assertEqual(answer(call, [], named), expected)

    def test_every_returned_list_is_a_new_one(self):
        for call, named, expected in CALLS:
            if isinstance(expected, list) and not inspect.isgeneratorfunction(call):
                with self.subTest(call.__name__):
                    found = call(**named)
                    self.assertIsNot(call(**named), found)
                    found.append(0)
                    self.assertEqual(call(**named), expected)

    def test_the_table_of_calls_has_every_function(self):
        names = [name for functions in INTERFACE.values() for name in functions]
        self.assertEqual([call.__name__ for call, _, _ in CALLS], names)

    def test_arguments_are_not_changed(self):
        for call, named, _ in CALLS:
            with self.subTest(call.__name__):
                before = copy.deepcopy(named)
                answer(call, [], named)
                self.assertEqual(named, before)

    def test_wrong_arguments_are_not_changed(self):
        wrong = ["a", ["b"]]
        for call, named, _ in CALLS:
            for name in named:
                with self.subTest(call.__name__, argument=name):
                    try:
                        answer(call, [], {**named, name: wrong})
                    except ValueError:
                        pass
                    self.assertEqual(wrong, ["a", ["b"]])
