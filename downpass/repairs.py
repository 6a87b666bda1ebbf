"""Repairs of plans when passes fall away (points 41 and 45 to 47)."""

from downpass.boards import Board
from downpass.goals import Goal, GoalMeasure, goal_weight, start_case
from downpass.hunts import hunt
from downpass.papers import Judge
from downpass.planning import lowest
from downpass.rules import keeps_rules


def closes_goal(world, goal, case, number, paper):
    """True if a paper closes a case for a goal and a number (point 45)."""
    return Judge(GoalMeasure(world, goal)).closes(case, number, paper)


def judges_repair(world, plan, lost, repaired, paper):
    """True if a repaired plan with a paper is accepted for an old plan and lost passes (point 46)."""
    goal = Goal(world, plan, lost)
    if not keeps_rules(world, repaired):
        return False
    _, taken = repaired
    if not all([taken[p] is None for p in goal.lost]):
        return False
    return closes_goal(world, goal, start_case(world, goal), goal_weight(world, goal, repaired), paper)


def repair(world, plan, lost, *, effort=200):
    """The tuple (plan, upper, paper) of a search for a repair (point 47)."""
    goal = Goal(world, plan, lost)
    # A plan has fewer changes than the factor, so each one has a greater goal weight than this.
    least = goal.factor * lowest(world)
    return hunt(Board(GoalMeasure(world, goal)), least, start_case(world, goal), effort)
