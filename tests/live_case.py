"""What the tests of live products share."""

from braceloops.errors import NotAscending, NothingToUndo, TooMany
from braceloops.kinds import AscendingCountingProduct, AscendingProduct, CountingProduct
from braceloops.live import LiveProduct
from braceloops.rows import size_of
from tests.helpers import ErrorCase, nested_loops, plain_drop

ASCENDING = (AscendingProduct, AscendingCountingProduct)
COUNTING = (CountingProduct, AscendingCountingProduct)
KINDS = (LiveProduct, AscendingProduct, CountingProduct, AscendingCountingProduct)


def failure(kind, most, factors):
    """Return what keeps a live product of a kind from having some factors: an error and a number."""
    words = nested_loops(factors)
    if kind in COUNTING and len(words) > most:
        return (TooMany, most)
    if kind in ASCENDING and plain_drop(words) is not None:
        return (NotAscending, plain_drop(words))
    return None


class LiveCase(ErrorCase):
    def assert_refused(self, expected, call, *given, **named):
        """Assert that a call fails with an error and its number, if it has one."""
        error, number = expected
        caught = self.assert_fails(error, call, *given, **named)
        if number is not None:
            self.assertEqual(caught.limit if error is TooMany else caught.index, number)

    def assert_state(self, live, factors, calls, most=1000):
        """Assert all that a live product says, but its finest form."""
        factors = tuple(factors)
        self.assertEqual(live.factors_now, factors)
        self.assertIs(type(live.factors_now), tuple)
        self.assertEqual(live.word_count, size_of(factors))
        self.assertEqual(len(live), calls)
        told = [f"factors {len(factors)}", f"words {size_of(factors)}"]
        told += ["ascending"] * isinstance(live, ASCENDING)
        told += [f"most {most}"] * isinstance(live, COUNTING)
        self.assertEqual(live.told(), told)
        self.assertIs(type(live.told()), list)

    def assert_undone(self, live, states):
        """Take all calls back; states has the factors before each of them, and its name."""
        for calls in range(len(states) - 1, -1, -1):
            factors, name = states[calls]
            self.assertEqual(live.undo(), name)
            self.assertEqual(live.factors_now, tuple(factors))
            self.assertEqual(len(live), calls)
        self.assert_fails(NothingToUndo, live.undo)
        self.assertEqual(len(live), 0)
