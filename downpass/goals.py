"""Goals of repairs: an old plan, lost passes, and what other plans are worth beside it (points 41 to 45)."""

from downpass.cases import pass_choices, recording_choices
from downpass.errors import BadPlan
from downpass.forms import is_integer
from downpass.measures import Measure, entries_of
from downpass.plans import OPEN, check_plan
from downpass.prices import Nets, check_prices
from downpass.worth import recording_weight, weight_of


class Goal:
    """An old plan and the passes that are lost to it (point 42)."""

    def __init__(self, world, plan, lost):
        check_plan(world, plan)
        many = len(world.passes)
        if not all([is_integer(p) and 0 <= p < many for p in lost]):
            raise BadPlan("a lost pass that is not in the world")
        self.plan = plan
        self.lost = tuple(sorted(set(lost)))
        self.factor = 1 + len(world.recordings) + many


class GoalMeasure(Measure):
    """What each entry of a thing adds to the goal weight of a plan."""

    def __init__(self, world, goal):
        super().__init__(world, goal.factor)
        self.old = entries_of(goal.plan)

    def entry_worth(self, thing, entry):
        """What an entry of a thing that is not open adds to the goal weight."""
        gain = super().entry_worth(thing, entry)
        return gain - changes_of(self.old[thing], entry)


def start_case(world, goal):
    """The case in which all is open but the lost passes, which are not taken (point 45)."""
    taken = [None if p in goal.lost else OPEN for p in range(len(world.passes))]
    return ((OPEN,) * len(world.recordings), tuple(taken))


def changes(goal, plan):
    """The number of the entries of a plan that differ from those of the old plan (point 41)."""
    return sum([changes_of(old, entry) for old, entry in zip(entries_of(goal.plan), entries_of(plan))])


def changes_of(old, entry):
    """1 if an entry differs from the one of the old plan, otherwise 0."""
    return 0 if entry == old else 1


def goal_weight(world, goal, plan):
    """The weight of a plan times the factor, less its changes (point 42)."""
    return goal.factor * weight_of(world, plan) - changes(goal, plan)


def recording_worth(world, goal, number, entry):
    """What an entry of a recording adds to the goal weight (point 43)."""
    made, _ = goal.plan
    gain = 0 if entry is None else goal.factor * recording_weight(world, number)
    return gain - changes_of(made[number], entry)


def pass_worth(world, goal, number, entry):
    """What an entry of a pass adds to the goal weight (point 43)."""
    _, taken = goal.plan
    gain = 0 if entry is None else -goal.factor * world.passes[number].fee
    return gain - changes_of(taken[number], entry)


def recording_entries(world, case, number):
    """The tuple of the entries of a recording that are possible in a case (point 44)."""
    made, _ = case
    if made[number] == OPEN:
        return recording_choices(world, number)
    return (made[number],)


def pass_entries(world, case, number):
    """The tuple of the entries of a pass that are possible in a case (point 44)."""
    _, taken = case
    if taken[number] == OPEN:
        return pass_choices(world, number)
    return (taken[number],)


def goal_bound(world, goal, case, divisor, prices):
    """The goal bound of a case under prices (point 44)."""
    check_prices(world, divisor, prices)
    return Nets(GoalMeasure(world, goal), divisor, prices).bound(case)
