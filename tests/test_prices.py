"""Points 2, 26 to 28: prices that can be used, and the bound of a case under them."""

import random
import unittest

from downpass.cases import open_case
from downpass.errors import BadPrice, BadRow
from downpass.plans import empty_plan
from downpass.prices import bound
from downpass.rows import pass_part, recording_part, right_side
from downpass.worlds import World, options
from downpass.worth import recording_weight, weight_of
from tests import paper_reckoning, reckoning
from tests.made_prices import made_prices
from tests.made_worlds import facts_of, made_case, made_world
from tests.samples import sample_world
from tests.small_worlds import chance, recording, satellite, station, world_of
from tests.tiny_worlds import is_of, kept_plans, tiny_case, tiny_world

ROOM = ("room", 0)
NO_ROWS = [(), ("room",), ("room", 1), ("room", -1), ("light", 0), ("store", 0, 60), ("energy from", 0, 4, 4), None]
NO_PRICES = [-1, -1000000, None, "1"]
NO_DIVISORS = [0, -1, -1000000, None, "1"]


def priced_world():
    """A world with a recording of two options, one without any, and two passes."""
    return world_of(
        satellite(store=9, battery=50, settle=1), station(antennas=2, turn=2),
        recording("ice", 4, 5, 6, size=7, energy=8, worth=9, until=40),
        recording("sea", 4, 5, 6, size=5, energy=2, worth=4, rank=2, until=3),
        chance("p", 11, 20, room=10, energy=3, fee=6), chance("q", 50, 55, room=4, energy=1, fee=2))


class Usable(unittest.TestCase):

    def setUp(self):
        self.world = sample_world()
        self.case = open_case(self.world)

    def assert_raises(self, error, divisor, prices):
        """These prices cannot be used, for any case."""
        for case in (self.case, empty_plan(self.world), (((4, 0),), (0,))):
            with self.assertRaises(error, msg=(divisor, prices)) as caught:
                bound(self.world, case, divisor, prices)
            self.assertIs(caught.exception.__class__, error)

    def test_prices_that_can_be_used(self):
        for divisor in (1, 2, 10 ** 30):
            for prices in [(), ((ROOM, 0),), ((ROOM, 1),), ((ROOM, 0), (ROOM, 0), (ROOM, 5)), ((ROOM, 10 ** 30),)]:
                self.assertIs(bound(self.world, self.case, divisor, prices).__class__, int)

    def test_divisors(self):
        for divisor in NO_DIVISORS:
            self.assert_raises(BadPrice, divisor, ())
            self.assert_raises(BadPrice, divisor, ((ROOM, 1),))

    def test_rows(self):
        for row in NO_ROWS:
            self.assert_raises(BadRow, 1, ((row, 1),))
            self.assert_raises(BadRow, 1, ((row, 0),))

    def test_prices(self):
        for price in NO_PRICES:
            self.assert_raises(BadPrice, 1, ((ROOM, price),))

    def test_each_place(self):
        for many in range(1, 5):
            for at in range(many):
                for pair, error in [((row, 1), BadRow) for row in NO_ROWS] + [((ROOM, n), BadPrice) for n in NO_PRICES]:
                    prices = tuple(pair if k == at else (ROOM, k) for k in range(many))
                    self.assert_raises(error, 2, prices)

    def test_the_divisor_comes_first(self):
        for divisor in NO_DIVISORS:
            for row in NO_ROWS:
                self.assert_raises(BadPrice, divisor, ((row, 1),))

    def test_the_row_comes_ahead_of_the_price(self):
        for row in NO_ROWS:
            for price in NO_PRICES:
                self.assert_raises(BadRow, 1, ((row, price),))

    def test_the_first_pair_comes_first(self):
        for row in NO_ROWS:
            for price in NO_PRICES:
                self.assert_raises(BadPrice, 1, ((ROOM, price), (row, 1)))
                self.assert_raises(BadRow, 1, ((row, 1), (ROOM, price)))
                self.assert_raises(BadPrice, 1, ((ROOM, 1), (ROOM, price), (ROOM, 1), (row, 1)))
                self.assert_raises(BadRow, 1, ((ROOM, 1), (row, 1), (ROOM, 1), (ROOM, price)))

    def test_what_is_no_pair_and_what_is_no_tuple(self):
        for prices in [((ROOM,),), ((ROOM, 1, 1),), (None,), ((),), [], [(ROOM, 1)], None, ROOM]:
            self.assert_raises(BadPrice, 1, prices)
        for divisor, prices in [(True, ()), (1, ((ROOM, True),)), (1, ((ROOM, False),))]:
            self.assert_raises(BadPrice, divisor, prices)


class EachEntry(unittest.TestCase):

    def setUp(self):
        self.world = priced_world()
        self.none = empty_plan(self.world)

    def bound_with(self, made, taken, divisor=1, prices=()):
        """The bound less that of the case in which all is None."""
        return bound(self.world, (made, taken), divisor, prices) - bound(self.world, self.none, divisor, prices)

    def test_without_prices(self):
        ice, sea = 9 * 14 ** 3, 4 * 14 ** 2
        nothing = (None, None)
        for divisor in (1, 2, 7):
            self.assertEqual(bound(self.world, self.none, divisor, ()), 0)
            for entry in ((4, 0), (5, 1), (99, 0), (-1, 1), "open"):
                self.assertEqual(bound(self.world, ((entry, None), nothing), divisor, ()), divisor * ice)
            for entry in ((4, 0), (99, 1)):
                self.assertEqual(bound(self.world, ((None, entry), nothing), divisor, ()), divisor * sea)
            self.assertEqual(bound(self.world, ((None, "open"), nothing), divisor, ()), 0)
            for antenna in (0, 1, 2, -1, 99):
                self.assertEqual(bound(self.world, (nothing, (antenna, None)), divisor, ()), -6 * divisor)
                self.assertEqual(bound(self.world, (nothing, (None, antenna)), divisor, ()), -2 * divisor)
            self.assertEqual(bound(self.world, (nothing, ("open", "open")), divisor, ()), 0)

    def test_right_sides_count_for_each_pair(self):
        for row in [ROOM, ("station", 0, 11), ("satellite", 0, 5), ("store", 0, 7), ("energy", 0, 20),
                    ("energy from", 0, 3, 20)]:
            right = right_side(self.world, row)
            for price in (0, 1, 7):
                self.assertEqual(bound(self.world, self.none, 3, ((row, price),)), price * right)
                self.assertEqual(bound(self.world, self.none, 3, ((row, price), (row, 2))), (price + 2) * right)

    def test_decided_entries_pay_for_each_pair(self):
        prices = (("satellite", 0, 5), 3), (("store", 0, 5), 2), (ROOM, 5), (("store", 0, 5), 4)
        weight = recording_weight(self.world, 0)
        for entry in ((4, 0), (5, 0), (5, 1), (0, 0), (12, 1), (30, 0)):
            cost = sum(price * recording_part(self.world, row, 0, entry) for row, price in prices)
            self.assertEqual(self.bound_with((entry, None), (None, None), 3, prices), 3 * weight - cost)
        for antenna in (0, 1, 7, -2):
            cost = sum(price * pass_part(self.world, row, 0) for row, price in prices)
            self.assertEqual(self.bound_with((None, None), (antenna, None), 3, prices), -18 - cost)
        # A decided entry may cost more than it is worth.
        self.assertEqual(self.bound_with(((4, 0), None), (None, None), 1, ((ROOM, weight),)), weight - 7 * weight)

    def test_an_open_recording_takes_its_best_option_or_none(self):
        weight = recording_weight(self.world, 0)
        self.assertEqual(options(self.world, 0), ((4, 0), (5, 0)))
        cheap, dear = ("satellite", 0, 4), ("satellite", 0, 11)
        for price in (0, 1, weight - 1, weight, weight + 1, 2 * weight):
            # The first row holds the first option alone, the second one the second alone.
            self.assertEqual(self.bound_with(("open", None), (None, None), 1, ((cheap, price),)), weight)
            dears = ((cheap, price), (dear, price + 5))
            self.assertEqual(self.bound_with(("open", None), (None, None), 1, dears), max(0, weight - price))
            self.assertEqual(self.bound_with((None, "open"), (None, None), 1, dears), 0)

    def test_an_open_pass_is_taken_where_it_gains(self):
        for price in range(4):
            gain = 10 * price - 6
            self.assertEqual(self.bound_with((None, None), ("open", None), 1, ((ROOM, price),)), max(0, gain))
            self.assertEqual(self.bound_with((None, None), (1, None), 1, ((ROOM, price),)), gain)
        self.assertEqual(self.bound_with((None, None), ("open", "open"), 1, ((ROOM, 2), (("room", 1), 2))), 14 + 6)

    def test_a_world_with_nothing(self):
        self.assertEqual(bound(World.parse("horizon 3\n"), ((), ()), 5, ()), 0)


class SecondReckoning(unittest.TestCase):

    def test_made_cases(self):
        for seed in range(400):
            world = made_world(seed)
            dice = random.Random(seed)
            pairs = reckoning.options_of(world)
            for k in range(3):
                case = made_case(world, pairs, seed * 31 + k)
                divisor, prices = made_prices(dice, world)
                due = paper_reckoning.bound_of(world, case, divisor, prices)
                self.assertEqual(bound(world, case, divisor, prices), due, (world.text, case, divisor, prices))

    def test_no_plan_that_keeps_the_rules_is_above_a_bound(self):
        least = None
        for seed in range(120):
            world = tiny_world(seed)
            dice = random.Random(seed)
            plans = kept_plans(world)
            for opens in (1, 0.7, 0.4):
                case = tiny_case(dice, world, opens)
                divisor, prices = made_prices(dice, world)
                most = bound(world, case, divisor, prices)
                for plan in plans:
                    if is_of(plan, case):
                        gap = most - divisor * weight_of(world, plan)
                        self.assertGreaterEqual(gap, 0, (world.text, case, plan, divisor, prices))
                        least = gap if least is None else min(gap, least)
        self.assertEqual(least, 0)

    def test_deciding_never_raises_a_bound_and_one_way_leaves_it(self):
        for seed in range(120):
            world = tiny_world(seed)
            dice = random.Random(seed + 1000)
            for _ in range(3):
                case = tiny_case(dice, world, 0.7)
                divisor, prices = made_prices(dice, world)
                most = bound(world, case, divisor, prices)
                for sort, entries in (("recording", case[0]), ("pass", case[1])):
                    for number, entry in enumerate(entries):
                        if entry == "open":
                            ways = paper_reckoning.ways_of(world, case, sort, number)
                            found = [bound(world, way, divisor, prices) for way in ways]
                            self.assertEqual(max(found), most, (world.text, case, sort, number, divisor, prices))


class AskedAgain(unittest.TestCase):

    def test_another_world_in_between_changes_nothing(self):
        asked = []
        for seed in range(40):
            world = made_world(seed)
            case = made_case(world, reckoning.options_of(world), seed)
            divisor, prices = made_prices(random.Random(seed), world)
            facts = facts_of(world)
            asked.append((world, case, divisor, prices, bound(world, case, divisor, prices)))
            self.assertEqual(facts_of(world), facts)
        for world, case, divisor, prices, due in asked:
            self.assertEqual(bound(world, case, divisor, prices), due)


if __name__ == "__main__":
    unittest.main()
