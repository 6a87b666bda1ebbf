"""Points 2, 3, 41 and 45 to 47: papers for goals, repairs that are accepted, and looking for them."""

import inspect
import random
import unittest
from unittest import mock

from downpass.cases import open_case
from downpass.errors import BadPlan
from downpass.goals import Goal, goal_bound, goal_weight, start_case
from downpass.hunts import Hunt
from downpass.planning import search
from downpass.plans import check_plan, empty_plan
from downpass.repairs import closes_goal, judges_repair, repair
from downpass.rules import keeps_rules
from downpass.worlds import World
from downpass.worth import weight_of
from tests import goal_reckoning, paper_reckoning
from tests.made_prices import made_paper, need_of, spoiled
from tests.made_worlds import facts_of, made_world
from tests.paper_reckoning import choices_in
from tests.samples import text_of, world_lines
from tests.small_worlds import chance, recording, satellite, station, world_of
from tests.test_goals import BAD_PLANS
from tests.test_planning import hard_world
from tests.tiny_worlds import all_plans, is_of, kept_plans, tiny_case, tiny_world

FREE = ("bound", 1, ())
EFFORTS = [0, 1, 2, 7, 40]


def repair_world():
    """A world with a recording of two options, for two passes, of which the second one is dearer."""
    return world_of(
        satellite(settle=1), station(antennas=2), recording("ice", 4, 4, 6, size=7, worth=9, until=40),
        chance("p", 11, 20, room=10, fee=1), chance("q", 25, 30, room=10, fee=3))


def tiny_goals(seeds, offset=0):
    """A tiny world, an old plan of it, lost passes and the generator, for each seed."""
    for seed in range(seeds):
        world = tiny_world(seed)
        dice = random.Random(seed + offset)
        old = goal_reckoning.made_old_plan(dice, world, kept_plans(world))
        yield world, old, goal_reckoning.made_lost(dice, world), dice


class Papers(unittest.TestCase):

    def setUp(self):
        self.world = repair_world()
        self.goal = Goal(self.world, (((4, 0),), (0, None)), [0])
        self.start = start_case(self.world, self.goal)

    def assert_closes(self, case, need, paper):
        """The paper closes the case for just the numbers from need on."""
        for number in (need - 10 ** 6, need - 1, need, need + 1, need + 10 ** 6):
            self.assertIs(closes_goal(self.world, self.goal, case, number, paper), number >= need, (number, paper))

    def assert_closes_nothing(self, case, paper):
        """The paper closes the case for no number."""
        for number in (-10 ** 40, 0, 10 ** 40):
            self.assertIs(closes_goal(self.world, self.goal, case, number, paper), False, paper)

    def test_bounds(self):
        weight = self.goal.factor * 9 * 10 ** 3
        self.assert_closes(self.start, weight - 1, FREE)
        self.assert_closes((((4, 1),), (None, 0)), weight - 12 - 3, FREE)
        self.assert_closes(((None,), (None, None)), -2, FREE)
        for divisor in (1, 2, 3, 7):
            for price in (0, 1, 5000):
                prices = ((("room", 0), price), (("room", 1), 3))
                most = goal_bound(self.world, self.goal, self.start, divisor, prices)
                self.assert_closes(self.start, -(-most // divisor), ("bound", divisor, prices))
                for number in range(most // divisor - 2, most // divisor + 3):
                    found = closes_goal(self.world, self.goal, self.start, number, ("bound", divisor, prices))
                    self.assertIs(found, most <= divisor * number)

    def test_breaches(self):
        case = (((4, 0),), (None, "open"))
        for number in (-10 ** 40, 0, 10 ** 40):
            self.assertIs(closes_goal(self.world, self.goal, case, number, ("breach", ("untaken", 0))), True)
        self.assert_closes_nothing(self.start, ("breach", ("untaken", 0)))

    def test_choices(self):
        weight = self.goal.factor * 9 * 10 ** 3
        untaken = ("breach", ("untaken", 0))
        taken = ("pass", 1, (untaken, FREE, FREE))
        self.assert_closes(self.start, weight - 15, ("recording", 0, (FREE, untaken, taken)))
        self.assert_closes(self.start, weight - 2, ("recording", 0, (FREE, untaken, FREE)))
        for papers in [(FREE, untaken), (FREE, untaken, taken, taken), (untaken, FREE, taken), (FREE, taken, untaken),
                       ()]:
            self.assert_closes_nothing(self.start, ("recording", 0, papers))
        for number in (-1, 0, 2, None):
            # Pass 0 is lost, so it is decided in the case at the start.
            self.assert_closes_nothing(self.start, ("pass", number, (FREE,) * 3))
        self.assert_closes(self.start, weight - 1, ("pass", 1, (FREE,) * 3))

    def test_what_is_no_paper(self):
        for paper in [(), None, "bound", 7, ("bound",), ("bound", 1), ("bound", 0, ()), ("bound", 1, (), ()),
                      list(FREE), ("bound", 1, ((("room", 2), 0),)), ("bound", 1, ((("room", 0), -1),)),
                      ("paper", 1, ()),
                      ("recording", 0), ("recording", 0, FREE), ("recording", 1, (FREE,) * 3), (FREE,), ("breach",),
                      ("breach", None), ("breach", ("untaken", 0), 0), ([], {}), ("bound", 1, []), ("bound", None, ())]:
            self.assert_closes_nothing(self.start, paper)
            inner = ("recording", 0, (FREE, ("breach", ("untaken", 0)), paper))
            self.assert_closes_nothing(self.start, inner)

    def test_what_is_no_case_is_not_closed(self):
        for case in [((), (None, None)), ((None,), ()), ((None, None), (None, None)), (((4, 2),), (None, None))]:
            self.assertIs(closes_goal(self.world, self.goal, case, 10 ** 40, FREE), False)

    def test_spoiled_papers(self):
        seen = {True: 0, False: 0}
        for world, old, lost, dice in tiny_goals(200):
            goal = Goal(world, old, lost)
            bounded = goal_reckoning.goal_bound_of(old)
            case = tiny_case(dice, world, 0.7) if dice.random() < 0.6 else start_case(world, goal)
            paper = made_paper(dice, world, case)
            need = need_of(world, case, paper, bounded) or 0
            for other in [paper] + [spoiled(dice, paper) for _ in range(4)]:
                for number in (need - 1, need, 10 ** 9):
                    due = paper_reckoning.closes_of(world, case, number, other, bounded)
                    self.assertIs(closes_goal(world, goal, case, number, other), due, (world.text, old, case, other))
                    seen[due] += 1
        self.assertGreater(min(seen.values()), 300)

    def test_papers_of_all_choices(self):
        for world, old, lost, dice in tiny_goals(120, 1):
            goal = Goal(world, old, lost)
            case = start_case(world, goal)
            paper = paper_reckoning.whole_paper(world, case)
            most = max(goal_weight(world, goal, plan) for plan in kept_plans(world) if is_of(plan, case))
            for number in (most - 1, most, most + 1):
                self.assertIs(closes_goal(world, goal, case, number, paper), number >= most)


class Accepted(unittest.TestCase):

    def setUp(self):
        self.world = repair_world()
        untaken = ("breach", ("untaken", 0))
        self.paper = ("recording", 0, (FREE, untaken, ("pass", 1, (untaken, FREE, FREE))))

    def test_repairs(self):
        old = (((4, 0),), (0, None))
        for plan, due in [((((4, 1),), (None, 0)), True), ((((4, 1),), (None, 1)), True),
                          (((None,), (None, None)), False), ((((4, 0),), (0, None)), False),
                          ((((4, 1),), (0, 0)), False), ((((4, 1),), (None, None)), False),
                          ((((4, 1),), (None, 2)), False), ((((4, 0),), (None, 0)), False)]:
            self.assertIs(judges_repair(self.world, old, [0], plan, self.paper), due, plan)
        # Of two antennas, that of the old plan is the one that is not changed.
        for antenna in (0, 1):
            old = (((4, 0),), (0, antenna))
            for other in (0, 1):
                paper = paper_reckoning.whole_paper(self.world, (("open",), (None, "open")))
                found = judges_repair(self.world, old, [0], (((4, 1),), (None, other)), paper)
                self.assertIs(found, antenna == other)

    def test_what_is_taken_in_vain_is_no_repair(self):
        paper = paper_reckoning.whole_paper(self.world, (("open",), ("open", "open")))
        old = (((4, 0),), (0, 0))
        self.assertIs(judges_repair(self.world, old, [], (((4, 0),), (0, None)), paper), True)
        self.assertIs(judges_repair(self.world, old, [], old, paper), False)

    def test_lost_passes_are_not_taken(self):
        paper = ("bound", 1, ())
        world = world_of(satellite(), station(), chance("p", 1, 2), chance("q", 3, 4))
        for lost in ([], [0], [1], [0, 1], [1, 1], [1, 0, 1]):
            for taken in [(None, None), (None, 0), (0, None), (0, 0)]:
                plan = ((), taken)
                case = (None if 0 in lost else "open", None if 1 in lost else "open")
                whole = paper_reckoning.whole_paper(world, ((), case))
                due = taken == tuple(None if p in lost else 0 for p in range(2))
                self.assertIs(judges_repair(world, ((), (0, 0)), lost, plan, whole), due, (lost, taken))
                # With nothing decided the bound alone tells it: each of the passes would be kept.
                self.assertIs(judges_repair(world, ((), (0, 0)), lost, plan, paper), due)

    def test_bad_plans_and_bad_passes(self):
        world, good = self.world, (((4, 0),), (0, None))
        bad = [((), (0, None)), (((4, 0),), (0,)), (((4, 0), None), (0, None)), (((4, 0),), (0, None, 0)),
               (((4, 2),), (0, None)), (((4, -1),), (0, None)), (("open",), (0, None)), (((4, 0),), ("open", None))]
        for plan in bad:
            for ask in (lambda: judges_repair(world, plan, [0], good, FREE), lambda: repair(world, plan, [0]),
                        lambda: judges_repair(world, good, [0], plan, FREE), lambda: repair(world, plan, [], effort=0),
                        lambda: judges_repair(world, plan, [9], plan, None)):
                with self.assertRaises(BadPlan, msg=plan):
                    ask()
        for lost in ([2], [-1], [0, 2], [1, -1, 0], [99]):
            with self.assertRaises(BadPlan):
                judges_repair(world, good, lost, good, FREE)
            with self.assertRaises(BadPlan):
                judges_repair(world, good, lost, bad[0], FREE)
            with self.assertRaises(BadPlan):
                repair(world, good, lost, effort=0)

    def test_plans_of_another_world(self):
        world = world_of(satellite(), station(), recording("ice", 4, 5, 6), chance("p", 11, 20))
        for plan in BAD_PLANS:
            with self.assertRaises(BadPlan):
                judges_repair(world, plan, [], (((4, 0),), (0,)), FREE)

    def test_exactly_what_the_document_says(self):
        seen = {True: 0, False: 0}
        for world, old, lost, dice in tiny_goals(120, 2):
            plans = kept_plans(world)
            papers = [paper_reckoning.whole_paper(world, goal_reckoning.start_of(world, lost)),
                      made_paper(dice, world, goal_reckoning.start_of(world, lost)),
                      repair(world, old, lost, effort=dice.choice([0, 3, 50]))[2]]
            repairs = [plan for plan in plans if goal_reckoning.is_repair(world, old, lost, plans, plan)]
            others = dice.sample(plans, min(len(plans), 4)) + [old] + dice.sample(all_plans(world), 1)
            for plan in repairs[:3] + others:
                for paper in papers:
                    due = goal_reckoning.accepts(world, old, lost, plan, paper)
                    found = judges_repair(world, old, lost, plan, paper)
                    self.assertIs(found, due, (world.text, old, lost, plan, paper))
                    self.assertTrue(not due or plan in repairs)
                    seen[due] += 1
                self.assertIs(judges_repair(world, old, lost, plan, papers[0]), plan in repairs)
        self.assertGreater(min(seen.values()), 200)

    def test_spoiled_papers_show_nothing_wrong(self):
        for world, old, lost, dice in tiny_goals(100, 3):
            plans = kept_plans(world)
            plan, _, paper = repair(world, old, lost, effort=50)
            for _ in range(6):
                other = spoiled(dice, paper)
                for one in [plan] + dice.sample(plans, min(len(plans), 3)):
                    found = judges_repair(world, old, lost, one, other)
                    self.assertIs(found, goal_reckoning.accepts(world, old, lost, one, other))
                    if found:
                        self.assertTrue(goal_reckoning.is_repair(world, old, lost, plans, one))


class Looking(unittest.TestCase):

    def assert_repair(self, world, old, lost, found, effort):
        """All that point 47 promises of what is found, and that there are at most so many choices in the paper."""
        self.assertIs(found.__class__, tuple)
        plan, upper, paper = found
        self.assertIsNone(check_plan(world, plan))
        self.assertIs(keeps_rules(world, plan), True, (world.text, old, lost, effort))
        self.assertTrue(all(plan[1][p] is None for p in lost))
        goal = Goal(world, old, lost)
        weight = goal_weight(world, goal, plan)
        self.assertLessEqual(weight, upper, (world.text, old, lost, effort))
        self.assertIs(closes_goal(world, goal, start_case(world, goal), upper, paper), True, (world.text, old, lost))
        self.assertLessEqual(choices_in(paper), effort)
        if weight == upper:
            self.assertIs(judges_repair(world, old, lost, plan, paper), True)

    def test_made_worlds(self):
        for seed in range(120):
            world = made_world(seed)
            dice = random.Random(seed)
            old = goal_reckoning.made_old_plan(dice, world, [empty_plan(world), search(world, effort=0)[0]])
            for lost in (goal_reckoning.made_lost(dice, world), list(range(len(world.passes)))):
                for effort in (0, 1, 10):
                    self.assert_repair(world, old, lost, repair(world, old, lost, effort=effort), effort)

    def test_tiny_worlds_are_searched_to_the_end(self):
        for world, old, lost, dice in tiny_goals(200, 4):
            plans = kept_plans(world)
            for effort in EFFORTS + [5000, 5001]:
                plan, upper, paper = repair(world, old, lost, effort=effort)
                self.assert_repair(world, old, lost, (plan, upper, paper), effort)
            self.assertEqual(upper, goal_reckoning.goal_weight_of(world, old, plan), (world.text, old, lost))
            self.assertTrue(goal_reckoning.is_repair(world, old, lost, plans, plan), (world.text, old, lost, plan))
            self.assertIs(judges_repair(world, old, lost, plan, paper), True)

    def test_every_kind_of_lost_passes(self):
        for seed in range(40):
            world = tiny_world(seed)
            old = search(world, effort=50)[0]
            many = len(world.passes)
            for lost in [[], list(range(many)), list(range(many)) * 2] + [[p] for p in range(many)]:
                plan, upper, paper = repair(world, old, lost, effort=5000)
                self.assert_repair(world, old, lost, (plan, upper, paper), 5000)
                self.assertEqual(upper, goal_weight(world, Goal(world, old, lost), plan))
                self.assertEqual(repair(world, old, lost[::-1] + lost, effort=5000), (plan, upper, paper))
                if lost == []:
                    self.assertEqual(plan, old)
                if len(lost) >= many:
                    self.assertEqual(plan, empty_plan(world))

    def test_no_pass_is_lost_to_a_plan_that_is_not_the_best(self):
        world = repair_world()
        plan, upper, paper = repair(world, empty_plan(world), [], effort=50)
        self.assertEqual((weight_of(world, plan), plan[0]), (8999, ((4, 0),)))
        self.assertIs(judges_repair(world, empty_plan(world), [], plan, paper), True)

    def test_the_kept_antenna(self):
        world = world_of(satellite(), station(antennas=3), recording("ice", 4, 9, 3), chance("p", 20, 30, fee=7))
        for antenna in range(3):
            for start in range(4, 10):
                old = (((start, 0),), (antenna,))
                self.assertEqual(repair(world, old, [], effort=300)[0], old)

    def test_worlds_with_nothing(self):
        for world in (World.parse("horizon 1\n"), world_of(satellite()), world_of(satellite(), station())):
            for effort in (0, 1, 5000, 10 ** 9):
                plan, upper, paper = repair(world, ((), ()), [], effort=effort)
                self.assertEqual((plan, upper), (((), ()), 0))
                self.assertIs(judges_repair(world, ((), ()), [], plan, paper), True)

    def test_worlds_without_recordings_or_passes(self):
        world = World.parse(text_of(world_lines(1, 1, 3, 0)))
        self.assertEqual(repair(world, empty_plan(world), [], effort=9)[:2], (((None,) * 3, ()), 0))
        # Passes without a fee stay taken, where they do not meet.
        world = world_of(satellite(), station(), *[chance(f"p{k}", 5 * k, 5 * k + 3) for k in range(3)])
        self.assertEqual(repair(world, ((), (0, 0, 0)), [1], effort=9)[:2], (((), (0, None, 0)), -1))
        self.assertEqual(repair(world, ((), (7, None, -1)), [0, 1], effort=9)[1], -2)

    def test_the_default_effort_is_200(self):
        effort = inspect.signature(repair).parameters["effort"]
        self.assertEqual((effort.default, effort.kind), (200, effort.KEYWORD_ONLY))
        for seed in range(15):
            world = made_world(seed)
            old = empty_plan(world)
            self.assertEqual(repair(world, old, []), repair(world, old, [], effort=200))

    def test_more_than_5000_count_as_5000(self):
        world = hard_world()
        old = empty_plan(world)
        due = repair(world, old, [9], effort=5000)
        self.assert_repair(world, old, [9], due, 5000)
        self.assertLess(goal_weight(world, Goal(world, old, [9]), due[0]), due[1])
        with mock.patch.object(Hunt, "divide", autospec=True, side_effect=Hunt.divide) as divide:
            self.assertEqual(repair(world, old, [9], effort=10 ** 9), due)
        self.assertEqual(divide.call_count, 5000)

    def test_so_many_cases_are_divided_and_no_more(self):
        world = hard_world()
        for effort in (0, 1, 30):
            with mock.patch.object(Hunt, "divide", autospec=True, side_effect=Hunt.divide) as divide:
                self.assert_repair(world, empty_plan(world), [1], repair(world, empty_plan(world), [1], effort=effort),
                                   effort)
            self.assertEqual(divide.call_count, effort)


class AskedAgain(unittest.TestCase):

    def test_another_world_in_between_changes_nothing(self):
        asked = []
        for world, old, lost, dice in tiny_goals(40, 5):
            facts = facts_of(world)
            kept = list(lost)
            found = repair(world, old, lost, effort=20)
            asked.append((world, old, lost, found, judges_repair(world, old, lost, found[0], found[2])))
            self.assertEqual((facts_of(world), lost), (facts, kept))
        for world, old, lost, found, due in asked:
            self.assertEqual(repair(world, old, lost, effort=20), found)
            self.assertIs(judges_repair(world, old, lost, found[0], found[2]), due)
            self.assertEqual(repair(World.parse(world.text), old, lost, effort=20), found)

    def test_a_goal_is_not_changed(self):
        for world, old, lost, dice in tiny_goals(30, 6):
            goal = Goal(world, old, lost)
            before = (goal.plan, goal.lost, goal.factor)
            closes_goal(world, goal, open_case(world), 0, FREE)
            self.assertEqual((goal.plan, goal.lost, goal.factor), before)


if __name__ == "__main__":
    unittest.main()
