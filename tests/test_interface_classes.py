"""The interface of the classes: names, arguments, the files that define them; [1] and [2]."""

import inspect
import operator
import unittest

from braceloops import kinds, live, objects
from braceloops.errors import BraceError

PAIRS = (("a", "b"), ("c", "d"))
NO_FACTORS = (("",),)
ROW_OPERATORS = ["__mul__", "__add__", "__floordiv__", "__eq__"]
# For each class: its file, the arguments of its constructor and their defaults.
CLASSES = [
    (objects.Row, objects, {"words": inspect.Parameter.empty}),
    (objects.Loops, objects, {"product": inspect.Parameter.empty}),
    (live.LiveProduct, live, {"factors": NO_FACTORS}),
    (kinds.AscendingProduct, kinds, {"factors": NO_FACTORS}),
    (kinds.CountingProduct, kinds, {"factors": NO_FACTORS, "most": 1000}),
    (kinds.AscendingCountingProduct, kinds, {"factors": NO_FACTORS, "most": 1000}),
]
KINDS = [made for made, _, arguments in CLASSES if "factors" in arguments]
# The methods that stand in each class itself, with their arguments if the interface names them.
METHODS = {
    objects.Row: dict.fromkeys([*ROW_OPERATORS, "__len__", "__contains__", "__getitem__", "__iter__"]),
    objects.Loops: {"__call__": ["index"], "__add__": None, "__eq__": None},
    live.LiveProduct: {
        "put_last": ["row"], "put_first": ["row"], "drop": [], "undo": [], "try_rows": ["rows"],
        "told": [], "finest_form": [], "__len__": None,
    },
    kinds.AscendingProduct: {"told": []},
    kinds.CountingProduct: {"told": []},
    kinds.AscendingCountingProduct: {"told": []},
}
PROPERTIES = {
    objects.Row: ["words"], objects.Loops: ["factors"], live.LiveProduct: ["factors_now", "word_count"],
}


class Names(unittest.TestCase):
    def test_each_class_stands_in_its_file_with_its_arguments(self):
        for made, module, arguments in CLASSES:
            with self.subTest(made.__name__):
                self.assertIs(getattr(module, made.__name__), made)
                self.assertEqual(made.__module__, module.__name__)
                found = inspect.signature(made).parameters
                self.assertEqual({name: found[name].default for name in found}, arguments)
                self.assertEqual(list(found), list(arguments))

    def test_each_method_stands_in_its_class_with_its_arguments(self):
        for made, methods in METHODS.items():
            for name, arguments in methods.items():
                with self.subTest(made.__name__, method=name):
                    method = vars(made)[name]
                    self.assertTrue(inspect.isfunction(method))
                    if arguments is not None:
                        self.assertEqual(list(inspect.signature(method).parameters)[1:], arguments)

    def test_properties(self):
        for made, names in PROPERTIES.items():
            for name in names:
                self.assertIsInstance(vars(made)[name], property)

    def test_what_belongs_to_the_class(self):
        members = vars(live.LiveProduct)
        self.assertEqual(members["LETTERS"], "abcdefghijklmnopqrstuvwxyz")
        self.assertIsInstance(members["read"], classmethod)
        self.assertEqual(list(inspect.signature(live.LiveProduct.read).parameters), ["text"])
        self.assertIsInstance(members["is_valid"], staticmethod)
        self.assertEqual(list(inspect.signature(live.LiveProduct.is_valid).parameters), ["value"])

    def test_no_method_or_property_is_more_than_the_interface_lists(self):
        for made, methods in METHODS.items():
            names = [*methods, *PROPERTIES.get(made, [])]
            if made is live.LiveProduct:
                names += ["LETTERS", "read", "is_valid"]
            found = [name for name in vars(made) if not name.startswith("_")]
            self.assertEqual(sorted(found), sorted(name for name in names if not name.startswith("_")))


class Arguments(unittest.TestCase):
    def test_constructors_by_position_and_by_name(self):
        self.assertEqual(objects.Row(("a",)).words, objects.Row(words=("a",)).words)
        self.assertEqual(objects.Loops(PAIRS).factors, objects.Loops(product=PAIRS).factors)
        for made in KINDS:
            with self.subTest(made.__name__):
                self.assertEqual(made(PAIRS).factors_now, PAIRS)
                self.assertEqual(made(factors=PAIRS).factors_now, PAIRS)
                self.assertEqual(made().factors_now, NO_FACTORS)
        for made in KINDS[2:]:
            for found in (made(PAIRS, 7), made(PAIRS, most=7), made(factors=PAIRS, most=7),
                          made(most=7, factors=PAIRS)):
                self.assertEqual(found.factors_now, PAIRS)
                self.assertEqual(found.told()[-1], "most 7")
            self.assertEqual(made(most=7).told()[-1], "most 7")
            self.assertEqual(made().told()[-1], "most 1000")
            self.assertEqual(made(PAIRS).told()[-1], "most 1000")

    def test_methods_by_position_and_by_name(self):
        loops = objects.Loops(PAIRS)
        self.assertEqual([loops(2), loops(index=2)], ["bc", "bc"])
        for made in KINDS:
            with self.subTest(made.__name__):
                one, two = made((("m", "n"),)), made((("m", "n"),))
                for each, given, named in ((one, [("x", "y")], {}), (two, [], {"row": ("x", "y")})):
                    self.assertIsNone(each.put_last(*given, **named))
                    self.assertIsNone(each.put_first(*given, **named))
                    self.assertEqual(each.factors_now, (("x", "y"), ("m", "n"), ("x", "y")))
                    self.assertEqual(each.try_rows(("a", "b"), ("c",)), [16, 16])
                self.assertEqual(made.read("{a,b}").factors_now, made.read(text="{a,b}").factors_now)
                self.assertIs(made.is_valid(PAIRS), True)
                self.assertIs(made.is_valid(value=PAIRS), True)
                self.assertIs(made.is_valid(value="a"), False)

    def test_the_same_calls_give_the_same_answers_again(self):
        for _ in range(2):
            for made in KINDS:
                found = made()
                found.put_first(("a", "b"))
                self.assertEqual(found.told()[:2], ["factors 2", "words 2"])
                self.assertEqual((found.undo(), len(found), found.told()[:2]),
                                 ("put_first", 0, ["factors 1", "words 1"]))

    def test_every_returned_list_is_a_new_one(self):
        for made in KINDS:
            found = made(PAIRS)
            for call, given in ((found.told, []), (found.try_rows, [("x", "y")]), (found.try_rows, [])):
                one, two = call(*given), call(*given)
                self.assertEqual(one, two)
                self.assertIsNot(one, two)
                one.append(0)
                self.assertEqual(call(*given), two)

    def test_wrong_arguments_are_not_changed_and_not_kept(self):
        wrong, before = ["a", ["b"]], ["a", ["b"]]
        row, loops = objects.Row(("a", "b")), objects.Loops(PAIRS)
        calls = [objects.Row, objects.Loops, loops, row.__getitem__, row.__contains__, row.__eq__,
                 row.__mul__, row.__add__, row.__floordiv__, loops.__add__, loops.__eq__]
        for made in KINDS:
            each = made(PAIRS)
            calls += [made, each.put_last, each.put_first, each.try_rows, made.read, made.is_valid]
        calls += [lambda value, made=made: made(PAIRS, value) for made in KINDS[2:]]
        for call in calls:
            try:
                call(wrong)
            except BraceError:
                pass
            self.assertEqual(wrong, before)

    def test_operands_are_not_changed(self):
        row, other = objects.Row(("ax", "bx")), objects.Row(("x",))
        loops, another = objects.Loops(PAIRS), objects.Loops((("ac", "ad", "bc", "bd"),))
        for call in (operator.mul, operator.add, operator.floordiv, operator.eq, operator.ne):
            call(row, other)
            self.assertEqual((row.words, other.words), (("ax", "bx"), ("x",)))
        for call in (operator.add, operator.eq, operator.ne):
            call(loops, another)
            self.assertEqual((loops.factors, another.factors), (PAIRS, (("ac", "ad", "bc", "bd"),)))
