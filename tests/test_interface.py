"""The interface: names, arguments, and the files in which they are defined; [1] and [2]."""

import inspect
import unittest

from braceloops import far, rows, steps

INTERFACE = {
    rows: {
        "is_row": ["value"], "is_product": ["value"], "multiply": ["row", "more"],
        "written_out": ["product"],
    },
    far: {
        "count_words": ["product"], "nth_word": ["product", "index"],
        "total_letters": ["product"], "words_from": ["product", "first"],
    },
    steps: {
        "step": ["word", "other"], "step_at": ["product", "index"],
        "first_difference": ["product", "other"], "same_words": ["product", "other"],
        "commute": ["row", "other"],
    },
}
PAIRS = (("a", "b"), ("c", "d"))
# What each function is called with, and its answer.
CALLS = [
    (rows.is_row, {"value": ("a",)}, True),
    (rows.is_product, {"value": (("a",),)}, True),
    (rows.multiply, {"row": ("a", "b")}, ("a", "b")),
    (rows.written_out, {"product": PAIRS}, ("ac", "ad", "bc", "bd")),
    (far.count_words, {"product": PAIRS}, 4),
    (far.nth_word, {"product": PAIRS, "index": 1}, "ad"),
    (far.total_letters, {"product": PAIRS}, 8),
    (far.words_from, {"product": PAIRS, "first": 3}, ["bd"]),
    (steps.step, {"word": "ab", "other": "ac"}, ("b", "c")),
    (steps.step_at, {"product": PAIRS, "index": 2}, ("ad", "bc")),
    (steps.first_difference, {"product": PAIRS, "other": (("ac",),)}, 1),
    (steps.same_words, {"product": PAIRS, "other": (("ac",),)}, False),
    (steps.commute, {"row": ("a", "b"), "other": ("a", "b")}, True),
]


def answer(call, given, named):
    found = call(*given, **named)
    return list(found) if inspect.isgenerator(found) else found


class Interface(unittest.TestCase):
    def test_each_function_stands_in_its_file_with_its_arguments(self):
        for module, functions in INTERFACE.items():
            for name, arguments in functions.items():
                with self.subTest(name):
                    function = getattr(module, name)
                    self.assertTrue(inspect.isfunction(function))
                    self.assertEqual(function.__module__, module.__name__)
                    self.assertEqual(list(inspect.signature(function).parameters), arguments)

    def test_arguments_by_position_and_by_name(self):
        for call, named, expected in CALLS:
            with self.subTest(call.__name__):
                given = list(named.values())
                for found in (answer(call, given, {}), answer(call, [], named)):
                    self.assertEqual(found, expected)
                    self.assertIs(type(found), type(expected))
                backwards = dict(reversed(list(named.items())))
                self.assertEqual(answer(call, [], backwards), expected)
                self.assertEqual(answer(call, given[:1], dict(list(named.items())[1:])), expected)

    def test_the_same_call_gives_the_same_answer_again(self):
        for call, named, expected in CALLS + CALLS[::-1]:
            with self.subTest(call.__name__):
                self.assertEqual(answer(call, [], named), expected)

    def test_the_table_of_calls_has_every_function(self):
        names = [name for functions in INTERFACE.values() for name in functions]
        self.assertEqual([call.__name__ for call, _, _ in CALLS], names)

    def test_arguments_are_not_changed(self):
        wrong = ["a", ["b"]]
        for call, named, _ in CALLS:
            for name in named:
                with self.subTest(call.__name__, argument=name):
                    try:
                        answer(call, [], {**named, name: wrong})
                    except ValueError:
                        pass
                    self.assertEqual(wrong, ["a", ["b"]])
