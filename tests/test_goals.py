"""Points 2, 3 and 41 to 45: goals, what plans and entries are worth under them, and the goal bound."""

import itertools
import random
import unittest

from downpass.cases import open_case
from downpass.errors import BadPlan, BadPrice, BadRow
from downpass.goals import (Goal, changes, goal_bound, goal_weight, pass_entries, pass_worth, recording_entries,
                            recording_worth, start_case)
from downpass.plans import empty_plan
from downpass.worlds import World, options
from downpass.worth import is_better, recording_weight, weight_of
from tests import goal_reckoning, paper_reckoning, reckoning
from tests.made_prices import made_prices
from tests.made_worlds import facts_of, made_case, made_world
from tests.samples import sample_world, text_of, world_lines
from tests.small_worlds import chance, recording, satellite, station, world_of
from tests.tiny_worlds import all_plans, is_of, kept_plans, tiny_case, tiny_world

BAD_PLANS = [((), (0,)), (((4, 0),), ()), (((4, 0), None), (0,)), (((4, 0),), (0, None)), (((4, 1),), (0,)), ((), ()),
             (((4, -1),), (0,)), (("open",), (0,)), (((4, 0),), ("open",))]


def goal_world():
    """A world with two recordings and three passes, one of them over a station with two antennas."""
    return world_of(
        satellite(), station("Fell"), station("Gap", antennas=2),
        recording("ice", 4, 5, 6, worth=9, rank=2, until=40), recording("sea", 20, 20, 3, worth=4, rank=3),
        chance("p", 11, 20, fee=1), chance("q", 30, 35, over="Gap", fee=6), chance("t", 50, 55, fee=0))


def goals_with(seeds):
    """A made world, an old plan of it, lost passes and the generator, for each seed."""
    for seed in range(seeds):
        world = made_world(seed)
        dice = random.Random(seed)
        old = goal_reckoning.made_old_plan(dice, world, [empty_plan(world)])
        yield world, old, goal_reckoning.made_lost(dice, world), dice


class Goals(unittest.TestCase):

    def test_attributes(self):
        world = goal_world()
        plan = (((4, 0), None), (0, None, None))
        for lost, due in [([], ()), ([1], (1,)), ([2, 0], (0, 2)), ([1, 1, 0, 1], (0, 1)), ([2, 1, 0], (0, 1, 2))]:
            goal = Goal(world, plan, lost)
            self.assertEqual((goal.plan, goal.lost, goal.factor), (plan, due, 6))
            self.assertIs(goal.lost.__class__, tuple)

    def test_the_list_of_the_lost_passes_stays_as_it_is(self):
        lost = [2, 0, 2]
        goal = Goal(goal_world(), empty_plan(goal_world()), lost)
        self.assertEqual(lost, [2, 0, 2])
        lost.append(1)
        self.assertEqual(goal.lost, (0, 2))

    def test_the_factor(self):
        for recordings in (0, 1, 4, 10):
            for passes in (0, 1, 4, 10):
                world = World.parse(text_of(world_lines(1, 1, recordings, passes)))
                self.assertEqual(Goal(world, empty_plan(world), []).factor, 1 + recordings + passes)

    def test_what_is_no_plan(self):
        for plan in BAD_PLANS:
            for lost in ([], [0], [1], [-1]):
                with self.assertRaises(BadPlan, msg=plan):
                    Goal(sample_world(), plan, lost)

    def test_passes_that_there_are_not(self):
        world = goal_world()
        for lost in ([3], [-1], [0, 3], [3, 0], [0, -1, 2], [99], [None], ["p"]):
            with self.assertRaises(BadPlan, msg=lost):
                Goal(world, empty_plan(world), lost)
        with self.assertRaises(BadPlan):
            Goal(World.parse("horizon 1\n"), ((), ()), [0])

    def test_old_plans_that_break_rules(self):
        world = goal_world()
        for plan in [(((5, 0), None), (None, 7, -2)), (((99, 2), (-5, 0)), (0, 0, 0)), (((4, 0), (20, 1)), (0, 1, 0))]:
            self.assertEqual(Goal(world, plan, [0]).plan, plan)

    def test_the_case_at_the_start(self):
        world = goal_world()
        for lost, taken in [([], ("open", "open", "open")), ([0], (None, "open", "open")),
                            ([2, 1, 2], ("open", None, None)), ([0, 1, 2], (None, None, None))]:
            goal = Goal(world, (((4, 0), None), (0, 0, 0)), lost)
            self.assertEqual(start_case(world, goal), (("open", "open"), taken))
        empty = World.parse("horizon 1\n")
        self.assertEqual(start_case(empty, Goal(empty, ((), ()), [])), ((), ()))


class Weights(unittest.TestCase):

    def test_changes(self):
        world = goal_world()
        old = (((4, 0), None), (0, None, 7))
        goal = Goal(world, old, [1])
        self.assertEqual(changes(goal, old), 0)
        for plan, due in [((((5, 0), None), (0, None, 7)), 1), (((None, None), (0, None, 7)), 1),
                          ((((4, 1), None), (0, None, 7)), 1), ((((4, 0), (20, 1)), (0, None, 7)), 1),
                          ((((4, 0), None), (1, None, 7)), 1), ((((4, 0), None), (None, None, 7)), 1),
                          ((((4, 0), None), (0, 0, 7)), 1), ((((4, 0), None), (0, None, None)), 1),
                          (((None, None), (None, None, None)), 3), ((((5, 0), (20, 1)), (1, 0, 0)), 5)]:
            self.assertEqual(changes(goal, plan), due, plan)
            self.assertEqual(goal_weight(world, goal, plan), 6 * weight_of(world, plan) - due)

    def test_each_worth(self):
        world = goal_world()
        old = (((4, 0), None), (0, None, 7))
        goal = Goal(world, old, [])
        weights = [6 * recording_weight(world, r) for r in range(2)]
        for r, entry, due in [(0, None, -1), (0, (4, 0), weights[0]), (0, (5, 0), weights[0] - 1), (1, None, 0),
                              (0, (99, 2), weights[0] - 1), (1, (20, 1), weights[1] - 1), (1, (-4, 0), weights[1] - 1)]:
            self.assertEqual(recording_worth(world, goal, r, entry), due, (r, entry))
        for p, entry, due in [(0, None, -1), (0, 0, -6), (0, 1, -7), (0, -3, -7), (1, None, 0), (1, 0, -37),
                              (1, 1, -37), (2, None, -1), (2, 0, -1), (2, 7, 0), (2, 99, -1)]:
            self.assertEqual(pass_worth(world, goal, p, entry), due, (p, entry))

    def test_against_the_second_reckoning(self):
        for world, old, lost, dice in goals_with(300):
            goal = Goal(world, old, lost)
            self.assertEqual(goal.lost, tuple(sorted(set(lost))))
            self.assertEqual(goal.factor, goal_reckoning.factor_of(world))
            self.assertEqual(start_case(world, goal), goal_reckoning.start_of(world, lost))
            for k in range(3):
                plan = made_case(world, reckoning.options_of(world), dice.randrange(10 ** 6), False)
                self.assertEqual(changes(goal, plan), goal_reckoning.changes_of(old, plan))
                due = goal_reckoning.goal_weight_of(world, old, plan)
                self.assertEqual(goal_weight(world, goal, plan), due)
                made = [recording_worth(world, goal, r, entry) for r, entry in enumerate(plan[0])]
                taken = [pass_worth(world, goal, p, entry) for p, entry in enumerate(plan[1])]
                self.assertEqual(made, [goal_reckoning.recording_worth_of(world, old, r, entry)
                                        for r, entry in enumerate(plan[0])])
                self.assertEqual(taken, [goal_reckoning.pass_worth_of(world, old, p, entry)
                                         for p, entry in enumerate(plan[1])])
                self.assertEqual(sum(made) + sum(taken), due)

    def test_greater_exactly_if_better_or_as_good_with_fewer_changes(self):
        seen = set()
        for seed in range(60):
            world = tiny_world(seed)
            dice = random.Random(seed)
            goal = Goal(world, goal_reckoning.made_old_plan(dice, world, kept_plans(world)), [])
            plans = all_plans(world)
            plans = dice.sample(plans, min(len(plans), 12)) + [goal.plan]
            for one, other in itertools.product(plans, plans):
                fewer = weight_of(world, one) == weight_of(world, other) and changes(goal, one) < changes(goal, other)
                due = is_better(world, one, other) or fewer
                self.assertIs(goal_weight(world, goal, one) > goal_weight(world, goal, other), due)
                seen.add((due, fewer))
        self.assertEqual(seen, {(True, True), (True, False), (False, False)})

    def test_many_changes_are_less_than_the_least_fee(self):
        # All ten entries of each sort are changed, for a plan that is better by a fee of 1.
        lines = [chance(f"p{k}", 5 * k + 5, 5 * k + 6, fee=int(k == 0)) for k in range(10)]
        lines = [recording(f"r{k}", 0, 0, 1) for k in range(10)] + lines
        world = world_of(satellite(), station(antennas=2), *lines)
        old = (((0, 0),) * 10, (1,) * 10)
        goal = Goal(world, old, [])
        other = (((1, 0),) * 10, (None,) + (0,) * 9)
        self.assertEqual(changes(goal, other), 20)
        self.assertGreater(goal_weight(world, goal, other), goal_weight(world, goal, old))


class Entries(unittest.TestCase):

    def test_what_is_decided(self):
        world = goal_world()
        for entry in (None, (4, 0), (5, 0), (99, 2)):
            self.assertEqual(recording_entries(world, ((None, entry), (0, 0, 0)), 1), (entry,))
        for entry in (None, 0, 1, -1, 99):
            self.assertEqual(pass_entries(world, ((None, None), (0, entry, 0)), 1), (entry,))

    def test_what_is_open(self):
        world = goal_world()
        case = open_case(world)
        self.assertEqual(recording_entries(world, case, 0), (None, (4, 0), (4, 1), (5, 0), (5, 1)))
        self.assertEqual(recording_entries(world, case, 1), (None, (20, 1), (20, 2)))
        self.assertEqual([pass_entries(world, case, p) for p in range(3)], [(None, 0), (None, 0, 1), (None, 0)])

    def test_against_the_second_reckoning(self):
        for seed in range(200):
            world = made_world(seed)
            case = made_case(world, reckoning.options_of(world), seed)
            for r in range(len(world.recordings)):
                found = recording_entries(world, case, r)
                self.assertEqual((found, found.__class__), (goal_reckoning.recording_entries_of(world, case, r), tuple))
            for p in range(len(world.passes)):
                found = pass_entries(world, case, p)
                self.assertEqual((found, found.__class__), (goal_reckoning.pass_entries_of(world, case, p), tuple))


class Bounds(unittest.TestCase):

    def test_without_prices(self):
        world = goal_world()
        goal = Goal(world, (((4, 0), None), (0, None, 7)), [])
        weights = [6 * recording_weight(world, r) for r in range(2)]
        # The old antenna of the last pass is none of its station, so every way to decide it is a change.
        self.assertEqual(goal_bound(world, goal, open_case(world), 1, ()), weights[0] + weights[1] - 1 - 1 + 0 - 1)
        self.assertEqual(goal_bound(world, goal, empty_plan(world), 3, ()), 3 * (-1 + 0 - 1 + 0 - 1))
        self.assertEqual(goal_bound(world, goal, goal.plan, 2, ()), 2 * (weights[0] - 6))
        self.assertEqual(goal_bound(world, goal, (("open", None), (None, "open", 0)), 1, ()), weights[0] - 1 + 0 - 1)

    def test_prices_and_errors(self):
        world = sample_world()
        goal = Goal(world, (((4, 0),), (0,)), [])
        room = ("room", 0)
        self.assertEqual(goal_bound(world, goal, open_case(world), 2, ((room, 3),)), 2 * 3 * 9000 - 3 * 7 + 30 - 6)
        for error, divisor, prices in [
                (BadPrice, 0, ()), (BadPrice, -1, ((("room", 1), 1),)), (BadRow, 1, ((("room", 1), -1),)),
                (BadPrice, 1, ((room, -1),)), (BadRow, 1, ((room, 0), ((), 0), (room, -1))),
                (BadPrice, 1, ((room, 0), (room, -1), ((), 0))), (BadRow, 1, ((("store", 0, 60), 1),))]:
            for case in (open_case(world), start_case(world, goal), empty_plan(world)):
                with self.assertRaises(error, msg=(divisor, prices)) as caught:
                    goal_bound(world, goal, case, divisor, prices)
                self.assertIs(caught.exception.__class__, error)

    def test_against_the_second_reckoning(self):
        for world, old, lost, dice in goals_with(300):
            goal = Goal(world, old, lost)
            for k in range(3):
                case = made_case(world, reckoning.options_of(world), dice.randrange(10 ** 6))
                divisor, prices = made_prices(dice, world)
                due = goal_reckoning.goal_bound_of(old)(world, case, divisor, prices)
                self.assertEqual(goal_bound(world, goal, case, divisor, prices), due, (world.text, old, case, prices))

    def test_no_plan_that_keeps_the_rules_is_above_it(self):
        least = None
        for seed in range(120):
            world = tiny_world(seed)
            dice = random.Random(seed)
            plans = kept_plans(world)
            goal = Goal(world, goal_reckoning.made_old_plan(dice, world, plans), [])
            for opens in (1, 0.7, 0.4):
                case = tiny_case(dice, world, opens)
                divisor, prices = made_prices(dice, world)
                most = goal_bound(world, goal, case, divisor, prices)
                for plan in plans:
                    if is_of(plan, case):
                        gap = most - divisor * goal_weight(world, goal, plan)
                        self.assertGreaterEqual(gap, 0, (world.text, goal.plan, case, plan, divisor, prices))
                        least = gap if least is None else min(gap, least)
        self.assertEqual(least, 0)

    def test_deciding_never_raises_it_and_one_way_leaves_it(self):
        for seed in range(100):
            world = tiny_world(seed)
            dice = random.Random(seed + 7)
            goal = Goal(world, goal_reckoning.made_old_plan(dice, world, kept_plans(world)), [])
            case = tiny_case(dice, world, 0.7)
            divisor, prices = made_prices(dice, world)
            most = goal_bound(world, goal, case, divisor, prices)
            for sort, entries in (("recording", case[0]), ("pass", case[1])):
                for number, entry in enumerate(entries):
                    if entry == "open":
                        ways = paper_reckoning.ways_of(world, case, sort, number)
                        self.assertEqual(max(goal_bound(world, goal, way, divisor, prices) for way in ways), most)


class AskedAgain(unittest.TestCase):

    def test_another_goal_in_between_changes_nothing(self):
        asked = []
        for world, old, lost, dice in goals_with(50):
            facts = facts_of(world)
            goal = Goal(world, old, lost)
            case = open_case(world)
            divisor, prices = made_prices(dice, world)
            asked.append((world, goal, case, divisor, prices, goal_bound(world, goal, case, divisor, prices),
                          goal_weight(world, goal, empty_plan(world))))
            self.assertEqual(facts_of(world), facts)
            self.assertEqual((goal.plan, goal.lost), (old, tuple(sorted(set(lost)))))
        for world, goal, case, divisor, prices, bounded, weight in asked:
            self.assertEqual(goal_bound(world, goal, case, divisor, prices), bounded)
            self.assertEqual(goal_weight(world, goal, empty_plan(world)), weight)

    def test_the_options_are_those_of_the_recording(self):
        for seed in range(50):
            world = made_world(seed)
            for r in range(len(world.recordings)):
                self.assertEqual(recording_entries(world, open_case(world), r), (None, *options(world, r)))


if __name__ == "__main__":
    unittest.main()
