"""Points 2, 3 and 34 to 36: desks, what is offered to them and weighed, and trials."""

import random
import unittest

from downpass.cases import open_case
from downpass.desks import Desk
from downpass.errors import BadPlan, PassError
from downpass.papers import judges
from downpass.planning import search
from downpass.plans import empty_plan
from downpass.worlds import World
from tests import reckoning
from tests.made_prices import spoiled
from tests.made_worlds import facts_of, made_world
from tests.paper_reckoning import closes_of, whole_paper
from tests.samples import sample_world, text_of, world_lines
from tests.small_worlds import chance, recording, satellite, station, world_of
from tests.test_goals import BAD_PLANS
from tests.tiny_worlds import all_plans, kept_plans, tiny_world

FREE = ("bound", 1, ())
NO_PAPERS = [FREE, (), None, ("breach", ("untaken", 0)), ("bound", 0, ()), ("recording", 0, ()), ("pass", 9, (FREE,))]


class Stop(Exception):
    """What a test raises within a trial."""


def desk_world():
    """A world in which the plans of two antennas are as good as each other, and better than all others."""
    return world_of(
        satellite(), station(antennas=2), recording("ice", 4, 5, 6, worth=9), chance("p", 11, 20, fee=1))


class DeskCase(unittest.TestCase):
    """A test case with plans of the world of desks: none, a fee for nothing, two good ones, and a broken one."""

    def setUp(self):
        self.world = desk_world()
        self.none = empty_plan(self.world)
        self.fee = ((None,), (0,))
        self.good = (((4, 0),), (0,))
        self.same = (((5, 0),), (1,))
        self.broken = (((4, 0),), (2,))
        self.paper = ("pass", 0, (("recording", 0, (FREE,) + (("breach", ("untaken", 0)),) * 2), FREE, FREE))
        self.desk = Desk(self.world)

    def assert_desk(self, plan, is_best):
        """What the desk has and knows."""
        self.assertEqual(self.desk.plan, plan)
        self.assertIs(self.desk.is_best, is_best)
        self.assertEqual(self.desk.best_plan, plan if is_best else None)

    def assert_offers(self, plan, paper, accepted, kept, is_best):
        """What weighing and offering return, and what the desk has and knows behind the offer."""
        ahead = (self.desk.plan, self.desk.is_best)
        self.assertIs(self.desk.weigh(plan, paper), accepted)
        self.assert_desk(*ahead)
        self.assertIs(self.desk.offer(plan, paper), accepted)
        self.assert_desk(kept, is_best)


class Offers(DeskCase):

    def test_a_new_desk(self):
        self.assertIs(self.desk.world, self.world)
        self.assert_desk(self.none, False)
        for world in (World.parse("horizon 1\n"), World.parse(text_of(world_lines(1, 1, 3, 0))), made_world(7)):
            desk = Desk(world)
            self.assertEqual((desk.world, desk.plan, desk.is_best, desk.best_plan),
                             (world, empty_plan(world), False, None))

    def test_a_plan_that_is_accepted(self):
        self.assert_offers(self.good, self.paper, True, self.good, True)

    def test_a_better_plan_without_a_paper_that_shows_it(self):
        for paper in NO_PAPERS:
            self.desk = Desk(self.world)
            self.assert_offers(self.good, paper, False, self.good, False)

    def test_a_better_plan_with_the_paper_of_another_weight(self):
        world = world_of(satellite(), station(), recording("ice", 4, 4, 6), recording("sea", 4, 4, 6, worth=2),
                         chance("p", 11, 20))
        desk = Desk(world)
        paper = whole_paper(world, open_case(world))
        self.assertIs(desk.offer((((4, 0), None), (0,)), paper), False)
        self.assertEqual((desk.plan, desk.is_best), ((((4, 0), None), (0,)), False))
        self.assertIs(desk.offer(((None, (4, 0)), (0,)), paper), True)
        self.assertEqual(desk.best_plan, ((None, (4, 0)), (0,)))

    def test_a_plan_that_is_only_as_good_changes_nothing(self):
        self.desk.offer(self.good, FREE)
        for paper in NO_PAPERS:
            self.assert_offers(self.same, paper, False, self.good, False)
        self.desk.offer(self.good, self.paper)
        for paper in NO_PAPERS:
            self.assert_offers(self.same, paper, False, self.good, True)

    def test_a_plan_that_is_only_as_good_is_taken_if_it_is_accepted(self):
        self.desk.offer(self.good, FREE)
        self.assert_offers(self.same, self.paper, True, self.same, True)
        self.assert_offers(self.good, self.paper, True, self.good, True)

    def test_the_plan_of_the_desk_itself(self):
        self.desk.offer(self.good, FREE)
        self.assert_offers(self.good, FREE, False, self.good, False)
        self.assert_offers(self.good, self.paper, True, self.good, True)
        self.assert_offers(self.good, FREE, False, self.good, True)
        self.assert_offers(self.good, self.paper, True, self.good, True)

    def test_worse_plans_change_nothing(self):
        for best in (False, True):
            self.desk.offer(self.good, self.paper if best else FREE)
            for plan in (self.none, self.fee):
                for paper in (self.paper, *NO_PAPERS):
                    self.assert_offers(plan, paper, False, self.good, best)

    def test_a_plan_that_breaks_a_rule_changes_nothing(self):
        for best in (None, False, True):
            if best is not None:
                self.desk.offer(self.good, self.paper if best else FREE)
            kept = self.desk.plan
            for plan in (self.broken, (((6, 0),), (0,)), (((4, 0),), (None,)), (((99, 0),), (-1,))):
                self.assertNotEqual(reckoning.breaches_of(self.world, plan), [])
                for paper in (self.paper, *NO_PAPERS):
                    self.assert_offers(plan, paper, False, kept, best is True)

    def test_better_by_the_value_and_not_by_what_is_made(self):
        world = world_of(satellite(), station(), recording("a", 0, 0, 1, worth=1000, rank=3),
                         recording("b", 0, 0, 1, worth=1, rank=2), chance("p", 2, 3), chance("q", 5, 6, fee=1))
        desk = Desk(world)
        low, high, dear = (((0, 0), None), (0, None)), ((None, (0, 0)), (0, None)), ((None, (0, 1)), (None, 0))
        for plan, kept in [(low, low), (dear, dear), (low, dear), (high, high), (dear, high), (low, high)]:
            self.assertIs(desk.offer(plan, FREE), False)
            self.assertEqual((desk.plan, desk.is_best), (kept, False))

    def test_the_empty_plan_may_be_the_best(self):
        for world in (World.parse("horizon 1\n"), world_of(satellite(), station(), chance("p", 1, 2, fee=3))):
            desk = Desk(world)
            self.assertIs(desk.offer(empty_plan(world), ()), False)
            self.assertEqual((desk.plan, desk.is_best, desk.best_plan), (empty_plan(world), False, None))
            self.assertIs(desk.weigh(empty_plan(world), FREE), True)
            self.assertIs(desk.is_best, False)
            self.assertIs(desk.offer(empty_plan(world), FREE), True)
            self.assertEqual((desk.plan, desk.is_best, desk.best_plan), (empty_plan(world), True, empty_plan(world)))

    def test_what_is_no_plan_raises_and_changes_nothing(self):
        world = sample_world()
        good = (((4, 0),), (0,))
        for paper in (FREE, (), None, ("breach", ("untaken", 0))):
            for ahead in ([], [(good, FREE)], [(good, whole_paper(world, open_case(world)))]):
                desk = Desk(world)
                for plan, other in ahead:
                    desk.offer(plan, other)
                before = (desk.plan, desk.is_best)
                for plan in BAD_PLANS + [(), None, "plan", ((), (), ())]:
                    for ask in (desk.offer, desk.weigh):
                        with self.assertRaises(BadPlan, msg=plan) as caught:
                            ask(plan, paper)
                        self.assertIsInstance(caught.exception, PassError)
                        self.assertEqual((desk.plan, desk.is_best), before)


class Trials(DeskCase):

    def test_it_gives_the_desk(self):
        trial = self.desk.tried()
        with trial as held:
            self.assertIs(held, self.desk)
        with self.desk.tried() as held:
            self.assertIs(held, self.desk)

    def test_what_was_taken_within_is_gone(self):
        for plan, paper in [(self.good, self.paper), (self.good, FREE), (self.same, self.paper)]:
            with self.desk.tried() as desk:
                desk.offer(plan, paper)
                self.assert_desk(plan, paper == self.paper)
            self.assert_desk(self.none, False)
        self.desk.offer(self.good, self.paper)
        with self.desk.tried() as desk:
            desk.offer(self.same, self.paper)
        self.assert_desk(self.good, True)

    def test_what_was_made_ahead_of_changes_and_entered_behind_them(self):
        first = self.desk.tried()
        self.desk.offer(self.good, FREE)
        second = self.desk.tried()
        self.desk.offer(self.same, self.paper)
        third = self.desk.tried()
        for trial, plan, is_best in [(third, self.same, True), (first, self.none, False), (third, self.same, True),
                                     (second, self.good, False), (second, self.good, False)]:
            ahead = (self.desk.plan, self.desk.is_best)
            with trial:
                self.assert_desk(*ahead)
            self.assert_desk(plan, is_best)

    def test_to_make_a_trial_changes_nothing(self):
        self.desk.offer(self.good, self.paper)
        self.desk.tried()
        self.assert_desk(self.good, True)
        self.assertIsNot(self.desk.tried(), self.desk.tried())

    def test_trials_within_trials(self):
        with self.desk.tried() as desk:
            desk.offer(self.fee, FREE)
            desk.offer(self.good, FREE)
            with desk.tried() as inner:
                self.assertIs(inner, self.desk)
                inner.offer(self.same, self.paper)
                with inner.tried():
                    inner.offer(self.good, self.paper)
                    self.assert_desk(self.good, True)
                self.assert_desk(self.same, True)
            self.assert_desk(self.good, False)
        self.assert_desk(self.none, False)

    def test_two_trials_of_one_desk_that_end_crosswise(self):
        outer = self.desk.tried()
        self.desk.offer(self.good, FREE)
        inner = self.desk.tried()
        with inner:
            with outer:
                self.desk.offer(self.same, self.paper)
            self.assert_desk(self.none, False)
        self.assert_desk(self.good, False)

    def test_what_is_raised_within_goes_on(self):
        for error in (Stop, BadPlan, ValueError, KeyError):
            with self.assertRaises(error) as caught:
                with self.desk.tried() as desk:
                    desk.offer(self.good, self.paper)
                    raise error("within")
            self.assertEqual(caught.exception.args, ("within",))
            self.assert_desk(self.none, False)
        with self.assertRaises(BadPlan):
            with self.desk.tried() as desk:
                desk.offer(self.good, FREE)
                desk.weigh(((), ()), FREE)
        self.assert_desk(self.none, False)

    def test_what_is_set_within_is_gone(self):
        self.desk.offer(self.good, FREE)
        with self.desk.tried() as desk:
            desk.plan = self.fee
            desk.is_best = True
            self.assertEqual(desk.best_plan, self.fee)
        self.assert_desk(self.good, False)

    def test_to_leave_ahead_of_the_end(self):
        for _ in range(2):
            with self.desk.tried() as desk:
                desk.offer(self.good, self.paper)
                continue
        self.assert_desk(self.none, False)

    def test_trials_of_other_desks_are_other_ones(self):
        other = Desk(self.world)
        with other.tried():
            self.desk.offer(self.good, self.paper)
            other.offer(self.same, FREE)
        self.assert_desk(self.good, True)
        self.assertEqual((other.plan, other.is_best), (self.none, False))


class Model:
    """A desk by the words of the document, with the second reckoning alone."""

    def __init__(self, world):
        self.world = world
        self.plan = ((None,) * len(world.recordings), (None,) * len(world.passes))
        self.is_best = False

    def offer(self, plan, paper):
        """What an offer returns."""
        if reckoning.breaches_of(self.world, plan) != []:
            return False
        weight = reckoning.weight_of(self.world, plan)
        if closes_of(self.world, open_case(self.world), weight, paper):
            self.plan, self.is_best = plan, True
            return True
        if reckoning.value_of(self.world, plan) > reckoning.value_of(self.world, self.plan):
            self.plan, self.is_best = plan, False
        return False


class ByTheList(unittest.TestCase):

    def test_plans_and_papers_by_anybody(self):
        seen = {"accepted": 0, "taken": 0, "left": 0, "broken": 0}
        for seed in range(120):
            world = tiny_world(seed)
            dice = random.Random(seed)
            plans, every = kept_plans(world), all_plans(world)
            most = max(reckoning.value_of(world, plan) for plan in plans)
            whole = whole_paper(world, open_case(world))
            desk, model = Desk(world), Model(world)
            for _ in range(15):
                best, upper, found = search(world, effort=dice.choice([0, 2, 50]))
                plan = dice.choice([dice.choice(plans), dice.choice(every), best, model.plan])
                paper = dice.choice([whole, found, spoiled(dice, whole), spoiled(dice, found), FREE])
                before = model.plan
                due = Model.offer(model, plan, paper)
                self.assertIs(desk.weigh(plan, paper), due, (world.text, plan, paper))
                self.assertIs(desk.offer(plan, paper), due, (world.text, plan, paper))
                self.assertEqual((desk.plan, desk.is_best), (model.plan, model.is_best))
                if desk.is_best:
                    self.assertEqual(reckoning.value_of(world, desk.plan), most)
                    self.assertEqual(desk.best_plan, desk.plan)
                broken = "broken" if plan not in plans else "left"
                seen["accepted" if due else "taken" if model.plan != before else broken] += 1
        self.assertGreater(min(seen.values()), 50, seen)

    def test_what_a_search_finds_is_offered(self):
        for seed in range(60):
            world = made_world(seed)
            plan, upper, paper = search(world, effort=30)
            desk = Desk(world)
            accepted = desk.offer(plan, paper)
            self.assertIs(accepted, judges(world, plan, paper))
            self.assertIs(desk.is_best, accepted)
            better = reckoning.value_of(world, plan) > reckoning.value_of(world, empty_plan(world))
            self.assertEqual(desk.plan, plan if accepted or better else empty_plan(world))

    def test_another_desk_in_between_changes_nothing(self):
        asked = []
        for seed in range(40):
            world = tiny_world(seed)
            facts = facts_of(world)
            desk = Desk(world)
            plan, _, paper = search(world, effort=50)
            asked.append((world, desk, plan, paper, desk.weigh(plan, paper), desk.plan))
            self.assertEqual(facts_of(world), facts)
        for world, desk, plan, paper, due, kept in asked:
            self.assertEqual((desk.plan, desk.is_best), (kept, False))
            self.assertIs(desk.weigh(plan, paper), due)
            self.assertIs(Desk(World.parse(world.text)).offer(plan, paper), due)


if __name__ == "__main__":
    unittest.main()
