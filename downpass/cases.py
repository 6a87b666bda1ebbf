"""Half-decided plans (point 17)."""

from downpass.plans import OPEN
from downpass.worlds import options


def open_case(world):
    """The case in which all is open."""
    return ((OPEN,) * len(world.recordings), (OPEN,) * len(world.passes))


def belongs(plan, case):
    """True if a plan has the same entries wherever the case is not open."""
    return all([agree(entries, decided) for entries, decided in zip(plan, case)])


def agree(entries, decided):
    """True if there are as many entries as decided ones, the same ones wherever these are not open."""
    if len(entries) != len(decided):
        return False
    return all([other == OPEN or entry == other for entry, other in zip(entries, decided)])


def is_complete(case):
    """True if nothing is open in a case."""
    made, taken = case
    return OPEN not in made and OPEN not in taken


def recording_choices(world, r):
    """The tuple of the ways to decide an open recording: None, then its options in order."""
    return (None,) + options(world, r)


def pass_choices(world, p):
    """The tuple of the ways to decide an open pass: None, then the antennas of its station in order."""
    station = world.passes[p].station
    return (None,) + tuple(range(world.stations[station].antennas))
