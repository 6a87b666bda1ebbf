"""A world laid out for a search: its things, their choices, and the rows that these are in.

A thing is a number, as in measures. A choice of a thing is told by its place among the choices; the
place of an open thing is -1. A board keeps what it has reckoned of a row, because a search asks
for the same rows over and over.
"""

from downpass.measures import entries_of
from downpass.plans import OPEN
from downpass.rows import right_side

OPEN_PLACE = -1


class Board:
    """The things of a world, their choices, and what these are worth for what is measured."""

    def __init__(self, measure):
        self.measure = measure
        self.world = measure.world
        self.choices = measure.choices
        self.worths = [[measure.entry_worth(thing, choice) for choice in choices]
                       for thing, choices in enumerate(measure.choices)]
        self.rights = {}
        self.shares = {}

    def places_of(self, case):
        """The tuple of the places of the entries of a case without a breach."""
        return tuple([OPEN_PLACE if entry == OPEN else self.choices[thing].index(entry)
                      for thing, entry in enumerate(entries_of(case))])

    def case_of(self, places):
        """The case with these places."""
        entries = tuple([OPEN if place == OPEN_PLACE else self.choices[thing][place]
                         for thing, place in enumerate(places)])
        many = self.measure.many_made
        return (entries[:many], entries[many:])

    def open_things(self, places):
        """The list of the things that can still be decided in more than one way."""
        return [thing for thing, place in enumerate(places)
                if place == OPEN_PLACE and len(self.choices[thing]) > 1]

    def is_open(self, places):
        """True if something can still be decided in more than one way."""
        return len(self.open_things(places)) > 0

    def worth_of(self, places):
        """What a plan with these places is worth."""
        return sum([self.worths[thing][place] for thing, place in enumerate(places)])

    def right(self, row):
        """The right side of a row."""
        if row not in self.rights:
            self.rights[row] = right_side(self.world, row)
        return self.rights[row]

    def shares_of(self, row):
        """A list of (thing, part, inside, outside) for the things that have a part in a row.

        inside and outside are the places of the choices with and without a part; all parts of one
        thing in one row are the same.
        """
        if row not in self.shares:
            self.shares[row] = self.reckoned_shares(row)
        return self.shares[row]

    def reckoned_shares(self, row):
        """The list of shares_of, reckoned from the document's rows."""
        found = []
        for thing, choices in enumerate(self.choices):
            parts = [self.measure.part(row, thing, choice) for choice in choices]
            inside = [place for place, part in enumerate(parts) if part != 0]
            if len(inside) > 0:
                outside = [place for place, part in enumerate(parts) if part == 0]
                found.append((thing, parts[inside[0]], inside, outside))
        return found
