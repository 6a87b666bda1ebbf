"""Searches for the best plan (points 32, 33 and 37)."""

from downpass.boards import Board
from downpass.cases import open_case
from downpass.hunts import hunt
from downpass.measures import Measure
from downpass.plans import check_case


def search(world, *, effort=200):
    """The triple (plan, upper, paper) of a search of a world."""
    return search_case(world, open_case(world), effort=effort)


def lowest(world):
    """The lowest weight of a world, less than that of any plan."""
    return -1 - sum([chance.fee for chance in world.passes])


def search_case(world, case, *, effort=200):
    """The triple (plan, upper, paper) of a search of a case; the plan may be None."""
    check_case(world, case)
    return hunt(Board(Measure(world)), lowest(world), case, effort)
