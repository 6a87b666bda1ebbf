"""Points 2, 32, 33 and 37: searches."""

import inspect
import random
import unittest
from unittest import mock

from downpass.cases import belongs, open_case
from downpass.errors import BadPlan
from downpass.hunts import Hunt
from downpass.papers import closes, judges, shows
from downpass.planning import lowest, search, search_case
from downpass.plans import check_plan, empty_plan, with_made, with_taken
from downpass.rules import keeps_rules
from downpass.worlds import World, options
from downpass.worth import weight_of
from tests import reckoning
from tests.made_worlds import facts_of, made_case, made_world
from tests.paper_reckoning import choices_in, closes_of, lowest_of
from tests.samples import sample_world, text_of, world_lines
from tests.small_worlds import chance, recording, satellite, station, world_of
from tests.tiny_worlds import all_plans, greatest_weight, kept_plans, tiny_case, tiny_world

EFFORTS = [0, 1, 2, 3, 7, 20, 200]


def hard_world():
    """A world in which 5000 choices are not enough: ten small recordings for ten passes that are too small."""
    lines = [recording(f"r{k}", k, k + 6, 1, size=7 + k, worth=50 + k, rank=3) for k in range(10)]
    lines += [chance(f"p{k}", 30 + 2 * k, 31 + 2 * k, over=f"st{k % 3}", room=11 + k, fee=k) for k in range(10)]
    return world_of(satellite(store=1000), station("st0", antennas=3), station("st1", antennas=3),
                    station("st2", antennas=3), *lines)


class SearchCase(unittest.TestCase):
    """A test case that looks at what searches return."""

    def assert_search(self, world, found, effort):
        """All that point 32 promises, and that there are at most so many choices in the paper."""
        self.assertIs(found.__class__, tuple)
        plan, upper, paper = found
        self.assertIsNone(check_plan(world, plan))
        self.assertIs(keeps_rules(world, plan), True, (world.text, effort))
        self.assertLessEqual(weight_of(world, plan), upper, (world.text, effort))
        self.assertIs(shows(world, upper, paper), True, (world.text, effort))
        self.assertLessEqual(choices_in(paper), effort, world.text)
        self.assertIs(judges(world, plan, paper), upper == weight_of(world, plan) or shows(
            world, weight_of(world, plan), paper))

    def assert_case_search(self, world, case, found, effort):
        """All that point 37 promises, and that there are at most so many choices in the paper."""
        self.assertIs(found.__class__, tuple)
        plan, upper, paper = found
        self.assertGreaterEqual(upper, lowest_of(world))
        self.assertIs(closes(world, case, upper, paper), True, (world.text, case, effort))
        self.assertLessEqual(choices_in(paper), effort, world.text)
        if plan is not None:
            self.assertIsNone(check_plan(world, plan))
            self.assertIs(keeps_rules(world, plan), True, (world.text, case, effort))
            self.assertIs(belongs(plan, case), True, (world.text, case, effort))
            self.assertLessEqual(weight_of(world, plan), upper, (world.text, case, effort))


class Search(SearchCase):

    def test_made_worlds(self):
        for seed in range(200):
            world = made_world(seed)
            for effort in (0, 1, 2, 10, 40):
                self.assert_search(world, search(world, effort=effort), effort)

    def test_made_worlds_against_the_second_reckoning(self):
        for seed in range(0, 200, 4):
            world = made_world(seed)
            if max([len(pairs) for pairs in reckoning.options_of(world)], default=0) > 6:
                continue
            plan, upper, paper = search(world, effort=4)
            self.assertEqual(reckoning.breaches_of(world, plan), [])
            self.assertGreaterEqual(upper, reckoning.weight_of(world, plan))
            self.assertIs(closes_of(world, open_case(world), upper, paper), True, world.text)

    def test_no_plan_of_a_tiny_world_is_above_upper(self):
        solved = {effort: 0 for effort in EFFORTS}
        for seed in range(150):
            world = tiny_world(seed)
            most = greatest_weight(world, open_case(world))
            for effort in EFFORTS:
                plan, upper, paper = search(world, effort=effort)
                self.assert_search(world, (plan, upper, paper), effort)
                self.assertIn(plan, kept_plans(world))
                self.assertGreaterEqual(upper, most)
                solved[effort] += upper == most
        self.assertGreater(solved[0], 20)
        self.assertGreater(solved[200], 140)

    def test_the_default_effort_is_200(self):
        for ask in (search, search_case):
            effort = inspect.signature(ask).parameters["effort"]
            self.assertEqual((effort.default, effort.kind), (200, effort.KEYWORD_ONLY))
        for seed in range(40):
            world = made_world(seed)
            self.assertEqual(search(world), search(world, effort=200))
            self.assertEqual(search_case(world, open_case(world)), search(world))

    def test_worlds_of_every_number_of_things(self):
        for recordings in (0, 1, 10):
            for passes in (0, 1, 10):
                world = World.parse(text_of(world_lines(1, 1, recordings, passes)))
                for effort in (0, 5):
                    self.assert_search(world, search(world, effort=effort), effort)

    def test_worlds_with_nothing(self):
        for world in (World.parse("horizon 1\n"), world_of(satellite()), world_of(satellite(), station())):
            for effort in (0, 1, 5000, 10 ** 9):
                plan, upper, paper = search(world, effort=effort)
                self.assertEqual((plan, upper), (((), ()), 0))
                self.assertIs(judges(world, plan, paper), True)

    def test_worlds_without_passes_or_recordings(self):
        world = World.parse(text_of(world_lines(1, 1, 3, 0)))
        self.assertEqual(search(world, effort=5000)[:2], (((None,) * 3, ()), 0))
        world = World.parse(text_of(world_lines(1, 1, 0, 3)))
        self.assertEqual(search(world, effort=5000)[:2], (((), (None,) * 3), 0))

    def test_the_widest_world(self):
        lines = [recording(f"r{k}", 20 * k, 20 * k + 20, 9, size=100 + k, energy=k, worth=k + 1, rank=1 + k % 3,
                           until=500) for k in range(10)]
        lines += [chance(f"p{k}", 300 + 18 * k, 310 + 18 * k, over=f"st{k % 3}", room=150, fee=k) for k in range(10)]
        world = world_of(satellite(store=1000), station("st0", antennas=3), station("st1", antennas=3),
                         station("st2", antennas=3), *lines, horizon=500)
        self.assertEqual(len(options(world, 9)), 210)
        for effort in (0, 3, 30):
            self.assert_search(world, search(world, effort=effort), effort)


class Effort(SearchCase):

    def test_more_than_5000_count_as_5000(self):
        world = hard_world()
        due = search(world, effort=5000)
        # The search does not come to its end, so more choices would have led on.
        self.assertLess(weight_of(world, due[0]), due[1])
        self.assert_search(world, due, 5000)
        self.assertEqual(search_case(world, open_case(world), effort=5001), due)
        with mock.patch.object(Hunt, "divide", autospec=True, side_effect=Hunt.divide) as divide:
            self.assertEqual(search(world, effort=7000), due)
        self.assertEqual(divide.call_count, 5000)

    def test_so_many_choices_are_made_and_no_more(self):
        world = hard_world()
        for effort in (0, 1, 2, 33):
            with mock.patch.object(Hunt, "divide", autospec=True, side_effect=Hunt.divide) as divide:
                self.assert_search(world, search(world, effort=effort), effort)
            self.assertEqual(divide.call_count, effort)

    def test_small_worlds_are_searched_to_the_end(self):
        for seed in range(250):
            world = tiny_world(seed)
            self.assertLessEqual(max([len(pairs) for pairs in reckoning.options_of(world)], default=0), 2)
            most = max(reckoning.weight_of(world, plan) for plan in kept_plans(world))
            for effort in (5000, 5001):
                plan, upper, paper = search(world, effort=effort)
                self.assertEqual((weight_of(world, plan), upper), (most, most), world.text)
                self.assertIs(judges(world, plan, paper), True)
                self.assertLessEqual(choices_in(paper), 5000)

    def test_small_worlds_that_are_the_widest_and_the_most_even(self):
        for antennas in (1, 2, 3):
            for room, size, fee in [(7, 7, 0), (7, 4, 3), (0, 0, 0), (0, 0, 5), (9, 0, 1000), (6, 4, 1000)]:
                for worth in (1, 1000):
                    lines = [recording(f"r{k}", k, k + 1, 1, size=size, worth=worth, rank=3) for k in range(3)]
                    lines += [chance(f"p{k}", 5 + k, 20 + k, room=room, fee=fee, by=f"s{k}") for k in range(3)]
                    satellites = [satellite(f"s{k}") for k in range(3)]
                    for by in range(3):
                        shared = [line.replace("by Ara", f"by s{by * k % 3}") for k, line in enumerate(lines[:3])]
                        world = world_of(*satellites, station(antennas=antennas), *shared, *lines[3:])
                        plan, upper, paper = search(world, effort=5000)
                        most = max(weight_of(world, one) for one in all_plans(world) if keeps_rules(world, one))
                        self.assertEqual((weight_of(world, plan), upper), (most, most), world.text)
                        self.assertIs(judges(world, plan, paper), True)


class Lowest(unittest.TestCase):

    def test_less_than_all_fees(self):
        self.assertEqual(lowest(World.parse("horizon 1\n")), -1)
        self.assertEqual(lowest(sample_world()), -2)
        passes = [chance("p", 1, 2, fee=7), chance("q", 1, 2), chance("r", 2, 3, fee=1000)]
        world = world_of(satellite(), station(), *passes)
        self.assertEqual(lowest(world), -1008)

    def test_every_plan_has_a_greater_weight(self):
        for seed in range(100):
            world = made_world(seed)
            self.assertEqual(lowest(world), lowest_of(world))
            taken = ((None,) * len(world.recordings), (0,) * len(world.passes))
            self.assertEqual(weight_of(world, taken), lowest(world) + 1)


class Cases(SearchCase):

    def test_made_cases(self):
        plans = 0
        for seed in range(200):
            world = made_world(seed)
            pairs = reckoning.options_of(world)
            for k in range(3):
                case = made_case(world, pairs, seed * 17 + k)
                for effort in (0, 1, 10):
                    found = search_case(world, case, effort=effort)
                    self.assert_case_search(world, case, found, effort)
                    plans += found[0] is not None
        self.assertGreater(plans, 200)

    def test_the_open_case_is_searched_as_the_world_is(self):
        for seed in range(60):
            world = made_world(seed)
            for effort in (0, 3):
                self.assertEqual(search_case(world, open_case(world), effort=effort), search(world, effort=effort))

    def test_tiny_cases_are_searched_to_the_end(self):
        none = 0
        for seed in range(200):
            world = tiny_world(seed)
            for opens in (0.9, 0.5, 0.2):
                case = tiny_case(random.Random(seed), world, opens)
                most = greatest_weight(world, case)
                none += most is None
                for effort in (0, 1, 4, 5000):
                    found = search_case(world, case, effort=effort)
                    self.assert_case_search(world, case, found, effort)
                    self.assertGreaterEqual(found[1], lowest(world) if most is None else most)
                    if most is None:
                        self.assertIsNone(found[0])
                if most is None:
                    self.assertEqual(found[1], lowest(world))
                else:
                    self.assertEqual((found[1], weight_of(world, found[0])), (most, most))
        self.assertGreater(none, 100)

    def test_the_lowest_weight_tells_that_there_is_no_plan(self):
        for seed in range(150):
            world = tiny_world(seed)
            case = tiny_case(random.Random(seed + 5), world, 0.6)
            for effort in (0, 2, 9):
                plan, upper, _ = search_case(world, case, effort=effort)
                if upper == lowest(world):
                    self.assertIsNone(plan)
                    self.assertIsNone(greatest_weight(world, case))

    def test_all_is_decided(self):
        for seed in range(100):
            world = tiny_world(seed)
            for plan in random.Random(seed).sample(kept_plans(world), min(5, len(kept_plans(world)))):
                for effort in (0, 9):
                    found = search_case(world, plan, effort=effort)
                    self.assertEqual(found[:2], (plan, weight_of(world, plan)))
                    self.assertIs(closes(world, plan, found[1], found[2]), True)
            case = tiny_case(random.Random(seed), world, 0)
            if not keeps_rules(world, case):
                found = search_case(world, case, effort=9)
                self.assertEqual(found[:2], (None, lowest(world)))
                self.assertIs(closes(world, case, lowest(world), found[2]), True)

    def test_entries_that_are_no_options_or_no_antennas(self):
        world = sample_world()
        for case in [(((3, 0),), ("open",)), (((6, 0),), (0,)), (("open",), (1,)), (("open",), (-1,)), ((None,), (99,)),
                     (((-4, 0),), (None,)), (((99, 0),), (7,))]:
            for effort in (0, 5):
                plan, upper, paper = search_case(world, case, effort=effort)
                self.assertEqual((plan, upper), (None, lowest(world)))
                self.assertIs(closes(world, case, upper, paper), True)

    def test_a_pass_that_is_taken_for_nothing(self):
        world = sample_world()
        plan, upper, paper = search_case(world, ((None,), (0,)), effort=3)
        self.assertEqual((plan, upper), (((None,), (0,)), -1))
        self.assertIs(closes(world, ((None,), (0,)), -1, paper), True)
        self.assertEqual(search_case(world, ((None,), ("open",)), effort=3)[:2], (((None,), (None,)), 0))

    def test_a_recording_whose_pass_is_open(self):
        world = world_of(satellite(), station(antennas=2), recording("ice", 4, 5, 3, worth=9),
                         recording("sea", 10, 10, 3, worth=9), chance("p", 20, 30, fee=5), chance("q", 40, 50, fee=1))
        plan, upper, _ = search_case(world, (((4, 0), "open"), ("open", "open")), effort=50)
        self.assertEqual((plan[0][0], upper), ((4, 0), 18 * 19 ** 3 - 5))
        self.assertIn(plan[1][0], (0, 1))
        found = search_case(world, (((4, 0), "open"), (None, "open")), effort=0)
        self.assertEqual(found[:2], (None, lowest(world)))

    def test_what_is_no_case(self):
        world = sample_world()
        for case in [((), ("open",)), (("open",), ()), (("open",) * 2, ("open",)), (("open",), ("open",) * 2),
                     (((4, 1),), ("open",)), (((4, -1),), (0,)), ((), ()), (("opened",), (0,)), (("open",), ("o",))]:
            for effort in (0, 5):
                with self.assertRaises(BadPlan, msg=case):
                    search_case(world, case, effort=effort)


class AskedAgain(SearchCase):

    def test_another_search_in_between_changes_nothing(self):
        asked = []
        for seed in range(50):
            world = made_world(seed)
            case = made_case(world, reckoning.options_of(world), seed)
            facts = facts_of(world)
            asked.append((world, case, search(world, effort=9), search_case(world, case, effort=9)))
            self.assertEqual(facts_of(world), facts)
        for world, case, due, other in asked:
            self.assertEqual(search(world, effort=9), due)
            self.assertEqual(search_case(world, case, effort=9), other)
            self.assertEqual(search(World.parse(world.text), effort=9), due)

    def test_more_decided_is_not_worth_more(self):
        # Searched to the end, deciding an entry never raises upper, and one way leaves it as it is.
        for seed in range(60):
            world = tiny_world(seed)
            most = search(world, effort=5000)[1]
            for number in range(len(world.recordings)):
                ways = [with_made(open_case(world), number, entry) for entry in (None, *options(world, number))]
                self.assertEqual(max(search_case(world, way, effort=5000)[1] for way in ways), most)
            for number, one in enumerate(world.passes):
                entries = [None, *range(world.stations[one.station].antennas)]
                ways = [with_taken(open_case(world), number, entry) for entry in entries]
                self.assertEqual(max(search_case(world, way, effort=5000)[1] for way in ways), most)

    def test_the_empty_plan_is_never_better(self):
        for seed in range(60):
            world = made_world(seed)
            self.assertGreaterEqual(search(world, effort=0)[1], weight_of(world, empty_plan(world)))


if __name__ == "__main__":
    unittest.main()
