"""Live products that are ascending, or have a limit for their words."""

from braceloops.checks import check_most
from braceloops.errors import TooMany
from braceloops.live import LiveProduct, digits_of
from braceloops.order import check_ascending
from braceloops.rows import check_product, size_of


class AscendingProduct(LiveProduct):
    """A live product that is always ascending."""

    def told(self):
        """Return the list of what there is to tell about the product."""
        return super().told() + ["ascending"]

    def _check_kind(self, factors):
        """Raise an error if a product is not ascending."""
        super()._check_kind(factors)
        check_ascending(factors)


class CountingProduct(LiveProduct):
    """A live product that never has more than a given number of words."""

    def __init__(self, factors=(("",),), most=1000):
        # What is wrong with the product comes before what is wrong with the limit.
        check_product(factors)
        check_most(most)
        self._most = most
        super().__init__(factors)

    def told(self):
        """Return the list of what there is to tell about the product."""
        return super().told() + [f"most {digits_of(self._most)}"]

    def _check_kind(self, factors):
        """Raise an error if a product has too many words."""
        if size_of(factors) > self._most:
            raise TooMany(self._most)
        super()._check_kind(factors)


class AscendingCountingProduct(CountingProduct, AscendingProduct):
    """A live product of both kinds.

    CountingProduct stands first: then its limit is checked first, and told last.
    """

    def told(self):
        """Return the list of what there is to tell about the product."""
        return super().told()
