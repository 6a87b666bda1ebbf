"""Points 2, 29 to 31: papers, what they close and show, and the judge."""

import random
import unittest

from downpass.cases import open_case
from downpass.errors import BadPlan
from downpass.papers import closes, judges, shows
from downpass.plans import empty_plan
from downpass.prices import bound
from downpass.rules import case_breaches
from downpass.worlds import World
from downpass.worth import weight_of
from tests import paper_reckoning, reckoning
from tests.made_prices import made_paper, made_prices, need_of, spoiled
from tests.made_worlds import facts_of, made_case, made_world
from tests.small_worlds import chance, recording, satellite, station, world_of
from tests.tiny_worlds import greatest_weight, is_of, kept_plans, tiny_case, tiny_world

FREE = ("bound", 1, ())
BEST = 8999


def sample_world():
    """A world with a recording of two options, of which the first one alone can be made, and a pass."""
    return world_of(
        satellite(store=9, battery=50, level=40, reserve=5, charge=1, settle=1, light=" 0 20"), station(turn=3),
        recording("ice", 4, 5, 6, size=7, energy=8, worth=9, until=40),
        chance("p", 11, 20, room=10, energy=3, fee=1))


def sample_paper(left=FREE, *rest):
    """A paper that divides the sample world's open case over its pass, and then over its recording."""
    made = rest or (FREE, FREE, ("breach", ("busy", ("recording", 0), ("pass", 0))))
    return ("pass", 0, (("recording", 0, (left, ("breach", ("untaken", 0)), ("breach", ("untaken", 0)))),
                        ("recording", 0, made)))


class PaperCase(unittest.TestCase):
    """A test case that looks at papers."""

    def assert_closes(self, world, case, need, paper):
        """The paper closes the case for just the weights from need on."""
        for weight in (need - 1000000, need - 1, need, need + 1, need + 1000000):
            self.assertIs(closes(world, case, weight, paper), weight >= need, (weight, need, paper))

    def assert_closes_nothing(self, world, case, paper):
        """The paper closes the case for no weight."""
        for weight in (-10 ** 40, -1, 0, 1, 10 ** 40):
            self.assertIs(closes(world, case, weight, paper), False, paper)


class Breaches(PaperCase):

    def setUp(self):
        self.world = sample_world()
        self.case = (((5, 0),), (0,))

    def test_a_breach_of_the_case_closes_it_for_every_weight(self):
        for weight in (-10 ** 40, -1, 0, 10 ** 40):
            paper = ("breach", ("busy", ("recording", 0), ("pass", 0)))
            self.assertIs(closes(self.world, self.case, weight, paper), True)

    def test_each_breach_of_the_case(self):
        case = (((9, 0),), (4,))
        self.assertEqual(case_breaches(self.world, case), [("option", 0), ("antenna", 0)])
        self.assertIs(closes(self.world, case, -1, ("breach", ("option", 0))), True)
        self.assertIs(closes(self.world, case, -1, ("breach", ("antenna", 0))), True)

    def test_other_breaches(self):
        for breach in [("busy", ("pass", 0), ("recording", 0)), ("untaken", 0), ("store", 0, 5), ("busy",), (), None, 0,
                       ("busy", ("recording", 0), ("pass", 0), 0), ["busy", ("recording", 0), ("pass", 0)], "busy", [],
                       ("busy", ["recording", 0], ("pass", 0)), ("busy", ("recording", 0), ("pass", 1))]:
            self.assert_closes_nothing(self.world, self.case, ("breach", breach))
        self.assert_closes_nothing(self.world, open_case(self.world),
                                   ("breach", ("busy", ("recording", 0), ("pass", 0))))

    def test_an_item_too_few_or_too_many(self):
        breach = ("busy", ("recording", 0), ("pass", 0))
        for paper in [("breach",), ("breach", breach, breach), ("breach", breach, ()), ("breach", *breach), breach]:
            self.assert_closes_nothing(self.world, self.case, paper)


class Bounds(PaperCase):

    def test_from_the_bound_on(self):
        world = sample_world()
        for case in (open_case(world), empty_plan(world), (((4, 0),), (0,)), (((99, 0),), (7,)), ((None,), (0,))):
            for divisor in (1, 2, 3, 7, 1000):
                for price in (0, 1, 5, 499, 500, 501, 9000):
                    prices = ((("store", 0, 5), price), (("room", 0), price // 2))
                    need = -(-bound(world, case, divisor, prices) // divisor)
                    self.assert_closes(world, case, need, ("bound", divisor, prices))

    def test_just_the_bound_and_one_above(self):
        world = sample_world()
        prices = ((("room", 0), 1),)
        # The bound is that of the recording, less its size, and of the room of the pass less its fee.
        for divisor, price, due in [(1, 1, 9002), (2, 1, 18001), (3, 1, 27000), (4, 1, 35999), (1, 0, 9000)]:
            prices = ((("room", 0), price),)
            self.assertEqual(bound(world, open_case(world), divisor, prices), due)
            for weight in range(8995, 9005):
                found = closes(world, open_case(world), weight, ("bound", divisor, prices))
                self.assertIs(found, due <= divisor * weight, (divisor, weight))

    def test_weights_below_0(self):
        world = sample_world()
        self.assert_closes(world, ((None,), (0,)), -1, FREE)
        # The pass takes a part in two rows; the right side of one of them is 1, of the other one 0.
        prices = ((("satellite", 0, 11), 10), (("room", 0), 0))
        self.assert_closes(world, ((None,), (0,)), -1, ("bound", 1, prices))
        self.assert_closes(world, (((4, 0),), (None,)), -5000, ("bound", 1, ((("room", 0), 2000),)))
        self.assertIs(closes(world, ((None,), (0,)), -2, FREE), False)

    def test_prices_that_cannot_be_used(self):
        world = sample_world()
        room = ("room", 0)
        for case in (open_case(world), empty_plan(world)):
            for divisor, prices in [(0, ()), (-1, ()), (None, ()), ("1", ()), (1, ((room, -1),)), (1, ((room, None),)),
                                    (1, ((("room", 1), 1),)), (1, (((), 0),)), (1, ((room, 1), (("light", 0), 0))),
                                    (1, ((room, 1, 1),)), (1, ((room,),)), (1, (room,)), (1, room), (1, None), (1, []),
                                    (1, [(room, 1)]), (1, ([room, 1],)), (1, ((["room", 0], 1),)), ((), 1), (True, ()),
                                    (1, ((("room", False), 1),)), (1, ((room, [1]),)), (1, ((([], 0), 1),)), ([], ())]:
                self.assert_closes_nothing(world, case, ("bound", divisor, prices))

    def test_an_item_too_few_or_too_many(self):
        world = sample_world()
        for paper in [("bound",), ("bound", 1), ("bound", ()), ("bound", 1, (), ()), ("bound", 1, (), 1)]:
            self.assert_closes_nothing(world, open_case(world), paper)


class Choices(PaperCase):

    def setUp(self):
        self.world = sample_world()
        self.case = open_case(self.world)

    def test_all_ways_are_closed(self):
        self.assert_closes(self.world, self.case, 9000, ("pass", 0, (FREE, FREE)))
        self.assert_closes(self.world, self.case, 9000, ("recording", 0, (FREE, FREE, FREE)))
        self.assert_closes(self.world, self.case, BEST, sample_paper())
        self.assert_closes(self.world, ((None,), ("open",)), 0, ("pass", 0, (FREE, FREE)))
        self.assert_closes(self.world, (("open",), (0,)), 8999, ("recording", 0, (FREE, FREE, FREE)))

    def test_the_order_of_the_papers(self):
        untaken = ("breach", ("untaken", 0))
        self.assert_closes(self.world, (("open",), (None,)), 0, ("recording", 0, (FREE, untaken, untaken)))
        for papers in [(untaken, FREE, untaken), (untaken, untaken, FREE), (untaken, untaken, untaken)]:
            self.assert_closes_nothing(self.world, (("open",), (None,)), ("recording", 0, papers))
        busy = ("breach", ("busy", ("recording", 0), ("pass", 0)))
        self.assert_closes(self.world, (("open",), (0,)), 8999, ("recording", 0, (FREE, FREE, busy)))
        self.assert_closes_nothing(self.world, (("open",), (0,)), ("recording", 0, (FREE, busy, FREE)))
        for papers in [(untaken, FREE), (FREE, FREE)]:
            case = (((4, 0),), ("open",))
            found = closes(self.world, case, 8999, ("pass", 0, papers))
            self.assertIs(found, papers == (untaken, FREE))
        self.assert_closes_nothing(self.world, (((4, 0),), ("open",)), ("pass", 0, (FREE, untaken)))

    def test_a_paper_too_few_or_too_many(self):
        for papers in [(), (FREE,), (FREE, FREE), (FREE,) * 4]:
            self.assert_closes_nothing(self.world, self.case, ("recording", 0, papers))
        for papers in [(), (FREE,), (FREE,) * 3]:
            self.assert_closes_nothing(self.world, self.case, ("pass", 0, papers))

    def test_papers_that_are_no_tuple(self):
        for papers in [[FREE] * 3, FREE, None, 3, "abc", {0: FREE, 1: FREE, 2: FREE}]:
            self.assert_closes_nothing(self.world, self.case, ("recording", 0, papers))

    def test_numbers_that_there_are_not(self):
        for number in (-1, 1, 2, 10, None, "0", (), [], False):
            self.assert_closes_nothing(self.world, self.case, ("recording", number, (FREE,) * 3))
            self.assert_closes_nothing(self.world, self.case, ("pass", number, (FREE,) * 2))

    def test_what_is_decided(self):
        for case in [((None,), ("open",)), (((4, 0),), ("open",)), (((9, 0),), ("open",))]:
            self.assert_closes_nothing(self.world, case, ("recording", 0, (FREE,) * 3))
        for case in [(("open",), (None,)), (("open",), (0,)), (("open",), (3,))]:
            self.assert_closes_nothing(self.world, case, ("pass", 0, (FREE,) * 2))
        twice = ("pass", 0, (("pass", 0, (FREE, FREE)), FREE))
        self.assert_closes_nothing(self.world, self.case, twice)

    def test_an_item_too_few_or_too_many(self):
        for paper in [("recording",), ("recording", 0), ("recording", (FREE,) * 3), ("recording", 0, (FREE,) * 3, ()),
                      ("recording", 0, FREE, FREE, FREE), ("pass", 0), ("pass", 0, (FREE,) * 2, 0)]:
            self.assert_closes_nothing(self.world, self.case, paper)

    def test_one_way_that_is_not_closed(self):
        for at in range(3):
            for other in [("breach", ("untaken", 0)), (), ("bound", 0, ()), None]:
                papers = tuple(other if k == at else FREE for k in range(3))
                self.assert_closes_nothing(self.world, self.case, ("recording", 0, papers))
        for left in [("breach", ("option", 0)), (), ("bound", 1), ("recording", 0, (FREE,) * 3)]:
            self.assert_closes_nothing(self.world, self.case, sample_paper(left))

    def test_all_papers_are_for_the_same_weight(self):
        # The first way would be closed for 0 alone, the second one needs 8999.
        paper = ("pass", 0, (FREE, FREE))
        self.assert_closes(self.world, (((4, 0),), ("open",)), 9000, paper)
        self.assert_closes(self.world, (((4, 0),), ("open",)), 8999, ("pass", 0, (("breach", ("untaken", 0)), FREE)))

    def test_a_recording_without_options(self):
        world = world_of(satellite(), station(), recording("ice", 4, 5, 6, until=0), chance("p", 20, 30))
        for papers, due in [((FREE,), True), ((), False), ((FREE, FREE), False)]:
            self.assertIs(closes(world, open_case(world), 0, ("recording", 0, papers)), due)

    def test_stations_with_more_antennas(self):
        for antennas in (1, 2, 3):
            world = world_of(satellite(), station(antennas=antennas), chance("p", 20, 30, fee=4))
            for many in range(6):
                found = closes(world, open_case(world), 0, ("pass", 0, (FREE,) * many))
                self.assertIs(found, many == antennas + 1)


class NoPapers(PaperCase):

    def setUp(self):
        self.world = sample_world()
        self.others = [
            (), ("",), ("paper",), ("Bound", 1, ()), ("bound ", 1, ()), (None, 1, ()), (1, (), "bound"), ("bound",), 0,
            None, "bound", ["bound", 1, ()], {}, [], (("bound", 1, ()),), ("recordings", 0, (FREE,) * 3),
            (("pass",), 0, ()), ("breaches", ("untaken", 0)), ("option", 0), ([], 1, ()), ({}, 0), (FREE, FREE), True,
            7]

    def test_at_the_top(self):
        for paper in self.others:
            for case in (open_case(self.world), empty_plan(self.world), (((4, 0),), (None,))):
                self.assert_closes_nothing(self.world, case, paper)
                self.assertIs(shows(self.world, 10 ** 40, paper), False)
                self.assertIs(judges(self.world, (((4, 0),), (0,)), paper), False)

    def test_deep_within_another_paper(self):
        for paper in self.others:
            self.assert_closes_nothing(self.world, open_case(self.world), sample_paper(paper))
            for at in range(3):
                inner = tuple(paper if k == at else FREE for k in range(3))
                self.assert_closes_nothing(self.world, open_case(self.world), sample_paper(FREE, *inner))

    def test_what_is_no_case_is_not_closed(self):
        for case in [((), ("open",)), (("open",), ()), (("open",) * 2, ("open",)), (("open",), ("open",) * 2),
                     (((4, 1),), ("open",)), (((4, -1),), ("open",))]:
            for paper in (FREE, ("breach", ("untaken", 0)), ("recording", 0, (FREE,) * 3), ("pass", 0, (FREE,) * 2)):
                self.assertIs(closes(self.world, case, 10 ** 40, paper), False)


class SecondReckoning(PaperCase):

    def test_made_papers(self):
        kinds = set()
        for seed in range(250):
            world = made_world(seed)
            dice = random.Random(seed)
            pairs = reckoning.options_of(world)
            case = made_case(world, pairs, seed * 13)
            if max([len(ways) for ways in pairs], default=0) > 12:
                continue
            paper = made_paper(dice, world, case)
            kinds.add(paper[0])
            need = need_of(world, case, paper)
            for weight in (-10 ** 30, 10 ** 30) if need is None else (need - 1, need):
                due = need is None or weight >= need
                self.assertIs(paper_reckoning.closes_of(world, case, weight, paper), due)
                self.assertIs(closes(world, case, weight, paper), due, (world.text, case, weight, paper))
        self.assertEqual(kinds, {"breach", "bound", "recording", "pass"})

    def test_spoiled_papers(self):
        seen = {True: 0, False: 0}
        for seed in range(250):
            world = tiny_world(seed)
            dice = random.Random(seed)
            case = tiny_case(dice, world, 0.7)
            paper = made_paper(dice, world, case)
            need = need_of(world, case, paper) or 0
            for _ in range(6):
                other = spoiled(dice, paper)
                for weight in (need - 1, need, 10 ** 9):
                    due = paper_reckoning.closes_of(world, case, weight, other)
                    self.assertIs(closes(world, case, weight, other), due, (world.text, case, weight, other))
                    seen[due] += 1
        self.assertGreater(min(seen.values()), 300)

    def test_what_is_closed_has_no_better_plan(self):
        for seed in range(100):
            world = tiny_world(seed)
            dice = random.Random(seed)
            for opens in (1, 0.6):
                case = tiny_case(dice, world, opens)
                paper = made_paper(dice, world, case)
                need = need_of(world, case, paper)
                for plan in kept_plans(world):
                    if is_of(plan, case):
                        self.assertIsNotNone(need)
                        self.assertLessEqual(weight_of(world, plan), need)
                        self.assertIs(closes(world, case, weight_of(world, plan) - 1, paper), False)


class Shows(PaperCase):

    def test_the_open_case_is_closed(self):
        world = sample_world()
        for paper in (FREE, sample_paper(), ("pass", 0, (FREE, FREE)), ("breach", ("untaken", 0)), ("bound", 2, ())):
            for weight in (-5, 0, 8998, 8999, 9000, 9001):
                self.assertIs(shows(world, weight, paper), closes(world, open_case(world), weight, paper))
        self.assertIs(shows(world, 8999, sample_paper()), True)
        self.assertIs(shows(world, 8998, sample_paper()), False)

    def test_every_weight_that_is_not_exceeded_is_shown_by_a_paper_of_all_choices(self):
        for seed in range(100):
            world = tiny_world(seed)
            paper = paper_reckoning.whole_paper(world, open_case(world))
            most = max(weight_of(world, plan) for plan in kept_plans(world))
            for weight in (most - 1, most, most + 1):
                self.assertIs(shows(world, weight, paper), weight >= most, world.text)

    def test_every_case_is_closed_by_a_paper_of_all_choices(self):
        for seed in range(150):
            world = tiny_world(seed)
            case = tiny_case(random.Random(seed), world, 0.5)
            paper = paper_reckoning.whole_paper(world, case)
            most = greatest_weight(world, case)
            if most is None:
                self.assertIs(closes(world, case, paper_reckoning.lowest_of(world), paper), True)
            else:
                self.assert_closes(world, case, most, paper)

    def test_worlds_with_nothing(self):
        for world in (World.parse("horizon 1\n"), world_of(satellite()), world_of(satellite(), station())):
            for weight in (-1, 0, 1):
                self.assertIs(shows(world, weight, FREE), weight >= 0)
            self.assertIs(judges(world, ((), ()), FREE), True)
            self.assertIs(judges(world, ((), ()), ("breach", ("untaken", 0))), False)
            self.assertIs(judges(world, ((), ()), ("recording", 0, (FREE,))), False)


class Judges(PaperCase):

    def test_plans_and_papers(self):
        world = sample_world()
        best, worse, broken = (((4, 0),), (0,)), ((None,), (0,)), (((5, 0),), (0,))
        self.assertIs(judges(world, best, sample_paper()), True)
        for plan in (worse, empty_plan(world)):
            self.assertIs(judges(world, plan, sample_paper()), False)
        # It is worth as much as the best one, but it breaks a rule.
        self.assertEqual(weight_of(world, broken), BEST)
        self.assertIs(judges(world, broken, sample_paper()), False)
        for paper in (FREE, ("pass", 0, (FREE, FREE)), ("recording", 0, (FREE,) * 3), ("breach", ("untaken", 0))):
            self.assertIs(judges(world, best, paper), False)

    def test_true_only_for_the_best_plans(self):
        for seed in range(60):
            world = tiny_world(seed)
            plans = kept_plans(world)
            most = max(weight_of(world, plan) for plan in plans)
            paper = paper_reckoning.whole_paper(world, open_case(world))
            dice = random.Random(seed)
            for plan in dice.sample(plans, min(len(plans), 15)):
                self.assertIs(judges(world, plan, paper), weight_of(world, plan) == most)
            for _ in range(10):
                plan = tiny_case(dice, world, 0)
                self.assertIs(judges(world, plan, paper), plan in plans and weight_of(world, plan) == most)

    def test_what_is_no_plan(self):
        world = sample_world()
        for plan in [((), (0,)), (((4, 0),), ()), (((4, 0), None), (0,)), (((4, 0),), (0, None)), (((4, 1),), (0,)),
                     (((4, -1),), (0,)), (("open",), (0,)), (((4, 0),), ("open",)), ((), ())]:
            for paper in (FREE, sample_paper(), (), None):
                with self.assertRaises(BadPlan, msg=plan):
                    judges(world, plan, paper)


class AskedAgain(PaperCase):

    def test_another_world_in_between_changes_nothing(self):
        asked = []
        for seed in range(60):
            world = tiny_world(seed)
            dice = random.Random(seed)
            case = tiny_case(dice, world, 0.7)
            paper = made_paper(dice, world, case)
            need = need_of(world, case, paper) or 0
            facts = facts_of(world)
            asked.append((world, case, need, paper, closes(world, case, need, paper)))
            self.assertEqual(facts_of(world), facts)
        for world, case, need, paper, due in asked:
            self.assertIs(closes(world, case, need, paper), due)

    def test_two_cases_under_the_same_prices(self):
        # What was reckoned for one case of a paper does not count for another one.
        for seed in range(60):
            world = tiny_world(seed)
            dice = random.Random(seed)
            prices = ("bound", *made_prices(dice, world))
            case = tiny_case(dice, world, 0.8)
            for sort, entries in (("recording", case[0]), ("pass", case[1])):
                for number, entry in enumerate(entries):
                    if entry == "open":
                        ways = paper_reckoning.ways_of(world, case, sort, number)
                        paper = (sort, number, (prices,) * len(ways))
                        self.assert_closes(world, case, need_of(world, case, paper), paper)


if __name__ == "__main__":
    unittest.main()
