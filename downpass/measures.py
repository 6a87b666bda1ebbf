"""What the entries of plans and cases add to the weight, and to the rows.

A thing is a number here: the recordings of a world by their numbers, then the passes by theirs.
The entries of a case in this order are those of its recordings, then those of its passes.
"""

from downpass.cases import pass_choices, recording_choices
from downpass.plans import with_made, with_taken
from downpass.rows import pass_part, recording_part
from downpass.worth import recording_weight


def entries_of(case):
    """The tuple of the entries of all things of a case."""
    made, taken = case
    return made + taken


class Measure:
    """What each entry of a thing adds to the weight of a plan."""

    def __init__(self, world, factor=1):
        self.world = world
        self.many_made = len(world.recordings)
        made = [recording_choices(world, r) for r in range(self.many_made)]
        taken = [pass_choices(world, p) for p in range(len(world.passes))]
        self.choices = made + taken
        weights = [factor * recording_weight(world, r) for r in range(self.many_made)]
        fees = [factor * chance.fee for chance in world.passes]
        self.gains = weights + [-fee for fee in fees]

    def entry_worth(self, thing, entry):
        """What an entry of a thing that is not open adds to what is measured."""
        return 0 if entry is None else self.gains[thing]

    def part(self, row, thing, entry):
        """What an entry of a thing that is not open adds to the left side of a row."""
        if entry is None:
            return 0
        if thing < self.many_made:
            return recording_part(self.world, row, thing, entry)
        return pass_part(self.world, row, thing - self.many_made)

    def decided(self, case, thing, entry):
        """The case with another entry for a thing."""
        if thing < self.many_made:
            return with_made(case, thing, entry)
        return with_taken(case, thing - self.many_made, entry)
