"""Desks, which have a plan and know whether it is the best (points 34 to 36)."""

from downpass.papers import judges
from downpass.plans import empty_plan
from downpass.rules import keeps_rules
from downpass.worth import is_better


class Trial:
    """Keeps what a desk has and knows now, and gives it back behind a with statement (point 35)."""

    def __init__(self, desk):
        self.desk = desk
        self.plan = desk.plan
        self.is_best = desk.is_best

    def __enter__(self):
        return self.desk

    def __exit__(self, kind, value, trace):
        desk = self.desk
        desk.plan = self.plan
        desk.is_best = self.is_best


class Desk:
    """The best plan of a world that was offered so far, and whether it is known to be the best (point 34)."""

    def __init__(self, world):
        self.world = world
        self.plan = empty_plan(world)
        self.is_best = False

    @property
    def best_plan(self):
        """The plan if it is known to be the best, otherwise None."""
        return self.plan if self.is_best else None

    def offer(self, plan, paper):
        """Take over a plan that is accepted with the paper, or better than the own one; True if it is accepted."""
        if judges(self.world, plan, paper):
            self.plan = plan
            self.is_best = True
            return True
        if keeps_rules(self.world, plan) and is_better(self.world, plan, self.plan):
            self.plan = plan
            self.is_best = False
        return False

    def weigh(self, plan, paper):
        """What an offer would return; nothing changes."""
        with self.tried() as desk:
            return desk.offer(plan, paper)

    def tried(self):
        """A trial of what the desk has and knows now."""
        return Trial(self)
