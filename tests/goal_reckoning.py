"""A second reckoning of points 41 to 47, straight from the document.

A goal is the old plan alone here, because what is lost counts for nothing but the case at the start.
"""

from tests import paper_reckoning, reckoning


def factor_of(world):
    """The factor of a goal."""
    return 1 + len(world.recordings) + len(world.passes)


def changes_of(old, plan):
    """How many entries differ."""
    found = 0
    for entries, others in ((old[0], plan[0]), (old[1], plan[1])):
        for k in range(len(entries)):
            if entries[k] != others[k]:
                found += 1
    return found


def goal_weight_of(world, old, plan):
    """The goal weight of a plan."""
    return reckoning.weight_of(world, plan) * factor_of(world) - changes_of(old, plan)


def recording_worth_of(world, old, r, entry):
    """The worth of an entry of a recording."""
    worth = -1 if entry != old[0][r] else 0
    if entry is not None:
        worth += factor_of(world) * paper_reckoning.recording_weight_of(world, r)
    return worth


def pass_worth_of(world, old, p, entry):
    """The worth of an entry of a pass."""
    worth = -1 if entry != old[1][p] else 0
    if entry is not None:
        worth -= factor_of(world) * world.passes[p].fee
    return worth


def recording_entries_of(world, case, r):
    """The possible entries of a recording."""
    if case[0][r] != "open":
        return (case[0][r],)
    return (None, *reckoning.options_of(world)[r])


def pass_entries_of(world, case, p):
    """The possible entries of a pass."""
    if case[1][p] != "open":
        return (case[1][p],)
    return (None, *range(world.stations[world.passes[p].station].antennas))


def goal_bound_of(old):
    """The function that gives the goal bound of a case under prices."""
    def bounded(world, case, divisor, prices):
        total = 0
        for row, price in prices:
            total += price * paper_reckoning.right_of(world, row)
        for r in range(len(case[0])):
            nets = []
            for entry in recording_entries_of(world, case, r):
                net = divisor * recording_worth_of(world, old, r, entry)
                if entry is not None:
                    net -= sum(price * paper_reckoning.recording_part_of(world, row, r, entry) for row, price in prices)
                nets.append(net)
            total += max(nets)
        for p in range(len(case[1])):
            nets = []
            for entry in pass_entries_of(world, case, p):
                net = divisor * pass_worth_of(world, old, p, entry)
                if entry is not None:
                    net -= sum(price * paper_reckoning.pass_part_of(world, row, p) for row, price in prices)
                nets.append(net)
            total += max(nets)
        return total
    return bounded


def start_of(world, lost):
    """The case that is to be closed."""
    return (("open",) * len(world.recordings), tuple(None if p in lost else "open" for p in range(len(world.passes))))


def is_repair(world, old, lost, plans, plan):
    """True if a plan is a repair; plans are all the plans that keep the rules."""
    free = [other for other in plans if all(other[1][p] is None for p in lost)]
    if plan not in free:
        return False
    value, many = reckoning.value_of(world, plan), changes_of(old, plan)
    for other in free:
        if reckoning.value_of(world, other) > value:
            return False
        if reckoning.value_of(world, other) == value and changes_of(old, other) < many:
            return False
    return True


def accepts(world, old, lost, plan, paper):
    """True if a plan, which has the form of one, is accepted with a paper."""
    if reckoning.breaches_of(world, plan) or any(plan[1][p] is not None for p in lost):
        return False
    number = goal_weight_of(world, old, plan)
    return paper_reckoning.closes_of(world, start_of(world, lost), number, paper, goal_bound_of(old))


def made_old_plan(dice, world, plans):
    """An old plan of any kind: one that keeps the rules, one of options, or one with entries of all sorts."""
    kind = dice.randrange(4)
    if kind == 0:
        return dice.choice(plans)
    pairs = reckoning.options_of(world)
    made = [dice.choice([None, *ways]) for ways in pairs]
    taken = [dice.choice([None, 0, 1]) for _ in world.passes]
    if kind == 1:
        for r in range(len(made)):
            if world.passes and dice.random() < 0.5:
                made[r] = (dice.randint(-3, world.horizon + 3), dice.randrange(len(world.passes)))
        taken = [dice.choice([None, -1, 0, 2, 99]) for _ in world.passes]
    return (tuple(made), tuple(taken))


def made_lost(dice, world):
    """A list of lost passes: none, some, one that stands there twice, or all."""
    many = len(world.passes)
    if many == 0:
        return []
    one = dice.randrange(many)
    return dice.choice([[], [one], [one, one], [one, dice.randrange(many)], list(range(many))[::-1],
                        [many - 1] + list(range(many))])
