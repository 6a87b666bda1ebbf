"""Prices for a case that make its bound small, found one row at a time."""

from downpass.boards import OPEN_PLACE
from downpass.violations import broken_rows

# All prices of a search have this divisor. Sizes and energies up to 16 divide it, so that prices
# at which such a thing just pays off are often integers.
SCALE = 720720


class Tariff:
    """Prices of rows, and what the choices of a case are worth net of what their parts cost."""

    def __init__(self, board, places, prices):
        self.board = board
        self.places = places
        self.prices = {}
        self.rights = 0
        self.nets = [[SCALE * worth for worth in worths] for worths in board.worths]
        for row, price in prices:
            self.raise_price(row, price)

    def pairs(self):
        """The tuple of the pairs (row, price) with a price above 0."""
        return tuple([(row, self.prices[row]) for row in self.prices if self.prices[row] > 0])

    def raise_price(self, row, more):
        """Raise the price of a row by so much, which may be negative."""
        self.prices[row] = self.prices.get(row, 0) + more
        self.rights += more * self.board.right(row)
        for thing, part, inside, _ in self.board.shares_of(row):
            nets = self.nets[thing]
            cost = more * part
            for place in inside:
                nets[place] -= cost

    def top(self, thing):
        """The greatest net of a thing in the case."""
        place = self.places[thing]
        return max(self.nets[thing]) if place == OPEN_PLACE else self.nets[thing][place]

    def bound(self):
        """The bound of the case."""
        return self.rights + sum([self.top(thing) for thing in range(len(self.places))])

    def chosen(self):
        """The tuple of the places of the choices that give the bound; among equals the first one."""
        return tuple([nets.index(max(nets)) if place == OPEN_PLACE else place
                      for nets, place in zip(self.nets, self.places)])

    def wishes(self, many):
        """For each thing a list of at most so many of its choices, those with the greatest nets first."""
        found = []
        for choices, nets in zip(self.board.choices, self.nets):
            places = sorted(range(len(nets)), key=lambda place: -nets[place])
            found.append([choices[place] for place in places[:many]])
        return found

    def improve(self, most):
        """Make the bound smaller, in at most so many rounds."""
        now = self.bound()
        for _ in range(most):
            broken = broken_rows(self.board.world, self.board.case_of(self.chosen()))
            priced = [row for row, _ in self.pairs() if row not in broken]
            for row in broken + priced:
                self.adjust(row)
            ahead = now
            now = self.bound()
            if now >= ahead:
                return

    def adjust(self, row):
        """Give one row the price at which the bound is smallest, all other prices as they are."""
        right = self.board.right(row)
        more = best_change(self.lines(row), right, -self.prices.get(row, 0))
        if more != 0:
            self.raise_price(row, more)

    def lines(self, row):
        """A list of (part, low, high) for the things that can have a part in the row.

        high is the greatest net with the part, low the one without it, or None if there is no way without.
        """
        found = []
        for thing, part, inside, outside in self.board.shares_of(row):
            nets = self.nets[thing]
            place = self.places[thing]
            if place == OPEN_PLACE:
                low = max([nets[other] for other in outside])
                found.append((part, low, max([nets[other] for other in inside])))
            elif place in inside:
                found.append((part, None, nets[place]))
        return found


def best_change(lines, right, least):
    """The change of the price of a row, not below the least one, that makes the bound smallest.

    As a function of this change, the bound is a sum of a straight line for the right side, and for each of the
    lines one that bends once: where it is no better to have the part than not to have it.
    """
    slope = right
    bends = []
    for part, low, high in lines:
        if low is None or part > 0:
            slope -= part
        if low is not None:
            bends.append((max(least, (high - low) // part), abs(part)))
    change = least
    for bend, rise in sorted(bends):
        if slope >= 0:
            break
        change = bend
        slope += rise
    # The bends are rounded down, so the smallest bound lies here or one behind.
    if bound_at(lines, right, change + 1) < bound_at(lines, right, change):
        return change + 1
    return change


def bound_at(lines, right, change):
    """The part of the bound that depends on the price of a row, behind a change of this price."""
    tops = [high - part * change if low is None else max(low, high - part * change) for part, low, high in lines]
    return right * change + sum(tops)
