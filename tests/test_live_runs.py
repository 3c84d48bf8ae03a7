"""[21] and [22]: long runs of calls, against a list of factors that the test keeps."""

import random

from braceloops.errors import InvalidRow, LastFactor, NothingToUndo
from braceloops.finest import finest
from braceloops.rows import is_row
from tests.helpers import LARGE, LARGE_ROW, WRONG_ROWS, nested_loops, random_product, random_row
from tests.live_case import ASCENDING, COUNTING, KINDS, LiveCase, failure

# Products of these rows are often ascending.
ASCENDING_ROWS = [("",), ("x",), ("a", "b"), ("c", "d", "e"), ("", "z"), ("ab", "ac", "b"), ("a", "ab")]
OTHER_ROWS = [("b", "a"), ("x", "x"), ("", ""), ("ab", "a"), ("zz", "z", "")]
STARTS = [(("",),), (("a", "b"),), (("a",), ("c", "d")), (("ab", "a"), ("x",))]


def random_given(chance):
    """Return what is put: rows of all sorts, and some values that are none."""
    if chance.random() < 0.15:
        return chance.choice(WRONG_ROWS)
    rows = chance.choice([ASCENDING_ROWS, ASCENDING_ROWS, OTHER_ROWS, [random_row(chance)]])
    return chance.choice(rows)


class LongRuns(LiveCase):
    def begin(self, live, factors, most):
        """Keep the factors of a new object, and no call."""
        self.live, self.factors, self.most = live, list(factors), most
        # For each call that can be taken back: the factors before it, and its name.
        self.states = []

    def make(self, call, given, expected, after):
        """Make a call that changes the object, or is refused and changes nothing."""
        if expected is not None:
            self.assert_refused(expected, call, *given)
            return
        dropped = self.factors[-1] if call.__name__ == "drop" else None
        self.assertEqual(call(*given), dropped)
        self.states.append((self.factors, call.__name__))
        self.factors = after

    def refusal(self, given, after):
        """Return what is wrong with a value that is put, or with the factors behind it."""
        return failure(type(self.live), self.most, after()) if is_row(given) else (InvalidRow, None)

    def put(self, chance):
        given, factors = random_given(chance), self.factors
        if chance.random() < 0.5:
            call, after = self.live.put_last, lambda: factors + [given]
        else:
            call, after = self.live.put_first, lambda: [given] + factors
        self.make(call, [given], self.refusal(given, after), after())

    def drop(self):
        after = self.factors[:-1]
        expected = failure(type(self.live), self.most, after) if after else (LastFactor, None)
        self.make(self.live.drop, [], expected, after)

    def undo(self):
        if not self.states:
            self.assert_fails(NothingToUndo, self.live.undo)
            return
        self.factors, name = self.states.pop()
        self.assertEqual(self.live.undo(), name)

    def try_some(self, chance):
        given = [random_given(chance) for _ in range(chance.choice([0, 1, 1, 2, 3]))]
        counts = []
        for many in range(1, len(given) + 1):
            expected = self.refusal(given[many - 1], lambda: self.factors + given[:many])
            if expected is not None:
                self.assert_refused(expected, self.live.try_rows, *given)
                return
            counts.append(len(nested_loops(self.factors + given[:many])))
        self.assertEqual(self.live.try_rows(*given), counts)

    def one_call(self, chance):
        draw = chance.random()
        if draw < 0.15:
            self.try_some(chance)
        elif draw < 0.3:
            self.undo()
        elif draw < 0.4:
            self.drop()
        elif len(nested_loops(self.factors)) <= 100 and len(self.factors) <= 12:
            self.put(chance)
        else:
            for _ in range(chance.randint(1, 8)):
                self.undo()

    def run_of_calls(self, chance, live, factors, most):
        self.begin(live, factors, most)
        longest = 0
        for _ in range(150):
            self.one_call(chance)
            longest = max(longest, len(self.states))
            self.assert_state(live, self.factors, len(self.states), most)
            self.assertEqual(live.finest_form(), finest(tuple(self.factors)))
        self.assert_undone(live, self.states)
        self.assert_state(live, factors, 0, most)
        return longest

    def test_each_kind(self):
        for kind in KINDS:
            chance = random.Random(2122)
            longest = []
            for _ in range(80):
                most = chance.choice([1, 2, 12, 24, 60, 1000])
                start = chance.choice([*STARTS, random_product(chance)])
                named = {"most": most} if kind in COUNTING else {}
                expected = failure(kind, most, start)
                if expected is not None:
                    self.assert_refused(expected, kind, start, **named)
                else:
                    live = kind(start, **named)
                    longest.append(self.run_of_calls(chance, live, start, most))
            self.assertGreater(max(longest), 10 if kind in ASCENDING else 15)

    def test_sixty_calls_on_a_large_product(self):
        for kind in KINDS:
            live = kind(LARGE[:1], 60 ** 41) if kind in COUNTING else kind(LARGE[:1])
            factors, states = list(LARGE[:1]), []
            for number in range(60):
                states.append((factors, ["put_last", "put_first", "put_last", "drop"][number % 4]))
                if number % 4 == 3:
                    self.assertEqual(live.drop(), LARGE_ROW)
                    factors = factors[:-1]
                else:
                    getattr(live, states[-1][1])(LARGE_ROW)
                    factors = factors + [LARGE_ROW]
                self.assert_state(live, factors, number + 1, 60 ** 41)
            self.assertEqual(live.finest_form(), finest(tuple(factors)))
            self.assert_undone(live, states)
