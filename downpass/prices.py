"""Prices of rows, and what they tell of a case (points 26 to 28)."""

from downpass.errors import BadPrice
from downpass.forms import is_integer, is_tuple_of
from downpass.measures import Measure, entries_of
from downpass.plans import OPEN
from downpass.rows import check_row, right_side


def check_prices(world, divisor, prices):
    """Raise BadPrice or BadRow if these prices cannot be used (point 26)."""
    if not is_integer(divisor) or divisor < 1:
        raise BadPrice("a divisor that is not 1 or more")
    if not isinstance(prices, tuple):
        raise BadPrice("not a tuple of pairs")
    for pair in prices:
        if not is_tuple_of(pair, 2):
            raise BadPrice("not a pair of a row and a price")
        row, price = pair
        check_row(world, row)
        if not is_integer(price) or price < 0:
            raise BadPrice("a price that is not 0 or more")


def bound(world, case, divisor, prices):
    """The bound of a case under prices (point 27)."""
    check_prices(world, divisor, prices)
    return Nets(Measure(world), divisor, prices).bound(case)


class Nets:
    """What entries are worth under prices that can be used: d times what they add, less what their parts cost."""

    def __init__(self, measure, divisor, prices):
        self.measure = measure
        self.divisor = divisor
        self.prices = prices
        self.rights = sum([price * right_side(measure.world, row) for row, price in prices])
        # What was reckoned once, as one paper often asks for many cases under the same prices.
        self.known = {}

    def bound(self, case):
        """The bound of a case."""
        return self.rights + sum([self.net(thing, entry) for thing, entry in enumerate(entries_of(case))])

    def net(self, thing, entry):
        """The net worth of an entry; of an open one the greatest of those that it can become."""
        key = (thing, entry)
        if key not in self.known:
            choices = self.measure.choices[thing] if entry == OPEN else (entry,)
            self.known[key] = max([self.choice_net(thing, choice) for choice in choices])
        return self.known[key]

    def choice_net(self, thing, entry):
        """The net worth of an entry that is not open."""
        parts = [price * self.measure.part(row, thing, entry) for row, price in self.prices]
        return self.divisor * self.measure.entry_worth(thing, entry) - sum(parts)
