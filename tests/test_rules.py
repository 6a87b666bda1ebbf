"""Points 2, 21 and 22: the breaches, and plans that keep the rules."""

import itertools
import unittest

from downpass.cases import belongs, open_case
from downpass.errors import BadPlan
from downpass.plans import OPEN, empty_plan
from downpass.rules import breaches, case_breaches, keeps_rules
from downpass.worlds import World, options
from tests.samples import sample_world, text_of, world_lines
from tests.small_worlds import chance, recording, satellite, station, world_of


class RulesCase(unittest.TestCase):
    """A test case that looks at the breaches of plans and of cases."""

    def assert_breaches(self, world, plan, found):
        """The plan, in which nothing is open, has these breaches."""
        self.assertEqual(breaches(world, plan), found, plan)
        self.assertEqual(case_breaches(world, plan), found, plan)
        self.assertIs(keeps_rules(world, plan), found == [], plan)
        self.assertIsInstance(breaches(world, plan), list)
        self.assertTrue(all(breach.__class__ is tuple for breach in breaches(world, plan)))


class Options(RulesCase):

    def setUp(self):
        self.world = world_of(
            satellite("Ara"), satellite("Bex"), station(antennas=3), recording("ice", 4, 6, 3, until=30),
            chance("p", 7, 10), chance("q", 15, 30), chance("late", 31, 32), chance("longer", 40, 50),
            chance("other", 10, 20, by="Bex"))

    def test_all_starts_and_passes(self):
        pairs = options(self.world, 0)
        self.assertEqual(pairs, ((4, 0), (4, 1), (5, 1), (6, 1)))
        for start in range(-1, 62):
            for p in range(5):
                taken = tuple(0 if k == p else None for k in range(5))
                found = [] if (start, p) in pairs else [("option", 0)]
                self.assert_breaches(self.world, (((start, p),), taken), found)

    def test_each_pass_that_is_not_taken(self):
        for start, p in options(self.world, 0):
            self.assert_breaches(self.world, (((start, p),), (None,) * 5), [("untaken", 0)])
            others = tuple(None if k == p else OPEN for k in range(5))
            self.assertEqual(case_breaches(self.world, (((start, p),), others)), [("untaken", 0)])
        self.assert_breaches(self.world, (((4, 0),), (None, 0, 1, 0, None)), [("untaken", 0)])

    def test_an_entry_that_is_no_option_is_not_untaken(self):
        self.assert_breaches(self.world, (((5, 0),), (None,) * 5), [("option", 0)])
        self.assert_breaches(self.world, (((3, 1),), (None,) * 5), [("option", 0)])

    def test_the_entry_of_the_pass_is_none(self):
        # An open entry, and an antenna that there is not, are something else than None.
        case = (((4, 0),), (OPEN, None, None, None, None))
        self.assertEqual(case_breaches(self.world, case), [])
        self.assert_breaches(self.world, (((4, 0),), (7, None, None, None, None)), [("antenna", 0)])

    def test_nothing_is_made(self):
        self.assert_breaches(self.world, ((None,), (0, 1, 2, 0, 0)), [])
        self.assertEqual(case_breaches(self.world, ((OPEN,), (None,) * 5)), [])

    def test_several(self):
        lines = [recording(f"r{k}", 3 * k, 3 * k, 1) for k in range(5)]
        world = world_of(satellite(), station(), *lines, chance("p", 40, 50), chance("q", 50, 60))
        made = ((0, 1), (0, 0), None, (9, 1), (12, 0))
        self.assert_breaches(world, (made, (0, None)), [("untaken", 0), ("option", 1), ("untaken", 3)])
        made = ((1, 0), (2, 0), (3, 0), (4, 0), (5, 0))
        self.assert_breaches(world, (made, (0, None)), [("option", r) for r in range(5)])
        made = tuple((3 * k, 0) for k in range(5))
        self.assert_breaches(world, (made, (None, None)), [("untaken", r) for r in range(5)])


class Antennas(RulesCase):

    def test_the_antennas_of_the_station(self):
        for many in (1, 2, 3):
            world = world_of(satellite(), station("Fell"), station("Gap", antennas=many),
                             chance("p", 5, 9), chance("q", 10, 12, over="Gap"))
            for antenna in range(-4, 101):
                found = [] if 0 <= antenna < many else [("antenna", 1)]
                self.assert_breaches(world, ((), (None, antenna)), found)
            self.assert_breaches(world, ((), (None, None)), [])
            self.assertEqual(case_breaches(world, ((), (OPEN, OPEN))), [])

    def test_several(self):
        lines = [chance(f"p{k}", k, k + 1) for k in range(10)]
        world = world_of(satellite(), station(antennas=2), *lines)
        taken = (2, 1, -1, None, 3, 0, 99, 0, -2, 1)
        self.assert_breaches(world, ((), taken), [("antenna", p) for p in (0, 2, 4, 6, 8)])

    def test_a_pass_that_is_not_taken_breaks_nothing_else(self):
        # It would be over its room, meet the other one, and spend too much.
        world = world_of(satellite(battery=5), station(), recording("a", 0, 0, 1, size=9), chance("p", 5, 9, room=1),
                         chance("q", 5, 9, energy=6))
        self.assert_breaches(world, (((0, 0),), (1, 1)), [("antenna", 0), ("antenna", 1)])
        self.assert_breaches(world, (((0, 0),), (0, 1)), [("room", 0), ("antenna", 1)])


class Rooms(RulesCase):

    def world_with_room(self, room, sizes=(4, 6, 0)):
        lines = [recording(f"r{k}", 2 * k, 2 * k, 1, size=size) for k, size in enumerate(sizes)]
        return world_of(satellite(), station(), *lines, chance("p", 10, 12, room=room), chance("q", 20, 22, room=room))

    def test_just_filled_and_one_over(self):
        made = ((0, 0), (2, 0), (4, 0))
        self.assert_breaches(self.world_with_room(11), (made, (0, None)), [])
        self.assert_breaches(self.world_with_room(10), (made, (0, None)), [])
        self.assert_breaches(self.world_with_room(9), (made, (0, None)), [("room", 0)])
        self.assert_breaches(self.world_with_room(0), (made, (0, None)), [("room", 0)])

    def test_only_what_the_pass_sends_counts(self):
        world = self.world_with_room(6)
        self.assert_breaches(world, (((0, 0), (2, 1), (4, 0)), (0, 0)), [])
        self.assert_breaches(world, (((0, 1), (2, 1), (4, 0)), (0, 0)), [("room", 1)])
        self.assert_breaches(world, (((0, 0), None, None), (0, 0)), [])

    def test_only_what_is_made_counts(self):
        world = self.world_with_room(6)
        self.assert_breaches(world, (((0, 0), (1, 0), None), (0, 0)), [("option", 1)])
        self.assertEqual(case_breaches(world, (((0, 0), OPEN, OPEN), (0, OPEN))), [])

    def test_only_of_passes_that_are_decided(self):
        world = self.world_with_room(6)
        made = ((0, 0), (2, 0), None)
        self.assertEqual(case_breaches(world, (made, (OPEN, 0))), [])
        self.assert_breaches(world, (made, (None, 0)), [("untaken", 0), ("untaken", 1)])
        self.assert_breaches(world, (made, (1, 0)), [("antenna", 0)])
        self.assert_breaches(world, (made, (0, None)), [("room", 0)])

    def test_no_room_and_nothing_to_send(self):
        self.assert_breaches(self.world_with_room(0), (((None,) * 3), (0, 0)), [])
        self.assert_breaches(self.world_with_room(0), ((None, None, (4, 0)), (0, 0)), [])

    def test_several(self):
        world = self.world_with_room(3)
        self.assert_breaches(world, (((0, 1), (2, 0), None), (0, 0)), [("room", 0), ("room", 1)])
        self.assert_breaches(world, (((0, 0), (2, 1), None), (1, 0)), [("antenna", 0), ("room", 1)])


class Turns(RulesCase):

    def two(self, second, turn, antennas=2, over="Fell"):
        """A world with a pass from 10 to 15 and another one, of two satellites."""
        return world_of(satellite("Ara"), satellite("Bex"), station("Fell", antennas=antennas, turn=turn),
                        station("Gap", antennas=antennas, turn=turn),
                        chance("p", 10, 15), chance("q", *second, by="Bex", over=over))

    def test_spans_that_touch_and_that_meet(self):
        for turn in (0, 1, 5, 40):
            for first in range(0, 59):
                minutes = set(range(10, 15 + turn)) & set(range(first, first + 2 + turn))
                found = [("turn", 0, 1)] if minutes else []
                self.assert_breaches(self.two((first, first + 2), turn), ((), (0, 0)), found)

    def test_before_and_after_by_one_minute(self):
        self.assert_breaches(self.two((15, 20), 0), ((), (1, 1)), [])
        self.assert_breaches(self.two((14, 20), 0), ((), (1, 1)), [("turn", 0, 1)])
        self.assert_breaches(self.two((18, 20), 3), ((), (1, 1)), [])
        self.assert_breaches(self.two((17, 20), 3), ((), (1, 1)), [("turn", 0, 1)])
        self.assert_breaches(self.two((5, 10), 0), ((), (1, 1)), [])
        self.assert_breaches(self.two((5, 11), 0), ((), (1, 1)), [("turn", 0, 1)])
        self.assert_breaches(self.two((5, 7), 3), ((), (1, 1)), [])
        self.assert_breaches(self.two((5, 8), 3), ((), (1, 1)), [("turn", 0, 1)])

    def test_lengthened_beyond_the_horizon(self):
        world = world_of(satellite("Ara"), satellite("Bex"), station(turn=60), chance("p", 58, 60),
                         chance("q", 0, 1, by="Bex"))
        self.assert_breaches(world, ((), (0, 0)), [("turn", 0, 1)])

    def test_two_antennas_and_one_antenna(self):
        world = self.two((10, 15), 5)
        self.assert_breaches(world, ((), (0, 1)), [])
        self.assert_breaches(world, ((), (1, 0)), [])
        self.assert_breaches(world, ((), (0, 0)), [("turn", 0, 1)])
        self.assert_breaches(world, ((), (1, 1)), [("turn", 0, 1)])

    def test_one_antenna_number_of_two_stations(self):
        self.assert_breaches(self.two((10, 15), 5, over="Gap"), ((), (0, 0)), [])
        self.assert_breaches(self.two((10, 15), 5, over="Gap"), ((), (1, 1)), [])

    def test_the_turning_time_of_the_station(self):
        world = world_of(satellite("Ara"), satellite("Bex"), station("Fell", turn=1), station("Gap", turn=9),
                         chance("p", 10, 15), chance("q", 20, 25, by="Bex"),
                         chance("o", 10, 15, by="Bex", over="Gap"), chance("n", 20, 25, over="Gap"))
        self.assert_breaches(world, ((), (0, 0, 0, 0)), [("turn", 2, 3)])

    def test_only_passes_that_are_taken(self):
        world = self.two((10, 15), 5)
        self.assert_breaches(world, ((), (0, None)), [])
        self.assert_breaches(world, ((), (2, 2)), [("antenna", 0), ("antenna", 1)])
        self.assert_breaches(world, ((), (-1, -1)), [("antenna", 0), ("antenna", 1)])
        self.assertEqual(case_breaches(world, ((), (OPEN, OPEN))), [])
        self.assertEqual(case_breaches(world, ((), (0, OPEN))), [])

    def test_several_in_their_order(self):
        lines = [chance(name, *span, by=by) for name, span, by in [
            ("p", (30, 34), "Ara"), ("q", (20, 24), "Bex"), ("o", (22, 31), "Col"), ("n", (20, 21), "Ara")]]
        world = world_of(satellite("Ara"), satellite("Bex"), satellite("Col"), station(antennas=2), *lines)
        self.assert_breaches(world, ((), (0, 0, 0, 0)), [("turn", 0, 2), ("turn", 1, 2), ("turn", 1, 3)])
        self.assert_breaches(world, ((), (1, 0, 1, 0)), [("turn", 0, 2), ("turn", 1, 3)])

    def test_every_two_of_three(self):
        lines = [chance(f"p{k}", 10, 20, by=f"s{k}") for k in range(3)]
        world = world_of(*[satellite(f"s{k}") for k in range(3)], station(), *lines)
        self.assert_breaches(world, ((), (0, 0, 0)), [("turn", 0, 1), ("turn", 0, 2), ("turn", 1, 2)])


class Busy(RulesCase):

    def test_two_recordings(self):
        for settle in (0, 1, 4, 40):
            for start in range(0, 21):
                world = world_of(satellite(settle=settle), station(), recording("a", 10, 10, 5),
                                 recording("b", start, start, 2), chance("p", 58, 60))
                case = (((10, 0), (start, 0)), (OPEN,))
                minutes = set(range(10, 15 + settle)) & set(range(start, start + 2 + settle))
                found = [("busy", ("recording", 0), ("recording", 1))] if minutes else []
                self.assertEqual(case_breaches(world, case), found, (settle, start))

    def test_a_recording_and_a_pass(self):
        for settle in (0, 1, 4, 40):
            for first in range(0, 58):
                world = world_of(satellite(settle=settle), station(), recording("a", 10, 10, 5),
                                 chance("p", first, first + 2), chance("q", 59, 60))
                minutes = set(range(10, 15 + settle)) & set(range(first, first + 2 + settle))
                found = [("busy", ("recording", 0), ("pass", 0))] if minutes else []
                self.assertEqual(case_breaches(world, (((10, 1),), (0, OPEN))), found, (settle, first))

    def test_a_recording_that_ends_at_the_first_minute_of_its_pass(self):
        for settle, found in [(0, []), (1, [("busy", ("recording", 0), ("pass", 0))])]:
            world = world_of(satellite(settle=settle), station(), recording("a", 0, 3, 5), chance("p", 8, 9))
            self.assert_breaches(world, (((3, 0),), (0,)), found)
            self.assert_breaches(world, (((2, 0),), (0,)), [])

    def test_two_passes_over_two_stations(self):
        for settle in (0, 1, 4, 40):
            for first in range(0, 59):
                world = world_of(satellite(settle=settle), station("Fell"), station("Gap"),
                                 chance("p", 10, 15), chance("q", first, first + 2, over="Gap"))
                minutes = set(range(10, 15 + settle)) & set(range(first, first + 2 + settle))
                found = [("busy", ("pass", 0), ("pass", 1))] if minutes else []
                self.assertEqual(case_breaches(world, ((), (0, 0))), found, (settle, first))

    def test_two_satellites_do_not_disturb_each_other(self):
        world = world_of(satellite("Ara", settle=9), satellite("Bex", settle=9), station(antennas=2),
                         recording("a", 0, 0, 5), recording("b", 0, 0, 5, by="Bex"),
                         chance("p", 20, 25), chance("q", 20, 25, by="Bex"))
        self.assert_breaches(world, (((0, 0), (0, 1)), (0, 1)), [])

    def test_the_settling_time_of_the_satellite(self):
        world = world_of(satellite("Ara", settle=1), satellite("Bex", settle=9), station(antennas=2),
                         recording("a", 0, 0, 5), recording("b", 0, 0, 5, by="Bex"),
                         chance("p", 10, 25), chance("q", 10, 25, by="Bex"))
        self.assert_breaches(world, (((0, 0), (0, 1)), (0, 1)), [("busy", ("recording", 1), ("pass", 1))])

    def test_only_what_is_made_and_taken(self):
        world = world_of(satellite(), station(), recording("a", 0, 0, 5), recording("b", 0, 0, 5),
                         chance("p", 2, 9), chance("q", 20, 30))
        self.assert_breaches(world, (((0, 1), None), (None, 0)), [])
        self.assert_breaches(world, (((0, 1), (1, 1)), (None, 0)), [("option", 1)])
        self.assert_breaches(world, (((0, 1), None), (1, 0)), [("antenna", 0)])
        self.assertEqual(case_breaches(world, (((0, 1), OPEN), (OPEN, OPEN))), [])
        self.assertEqual(case_breaches(world, (((0, 1), (0, 1)), (0, OPEN))), [
            ("busy", ("recording", 0), ("recording", 1)), ("busy", ("recording", 0), ("pass", 0)),
            ("busy", ("recording", 1), ("pass", 0))])

    def test_several_in_their_order(self):
        lines = [recording("a", 9, 9, 5, by="Bex"), recording("b", 3, 3, 4), recording("c", 9, 9, 1, by="Bex"),
                 recording("d", 5, 5, 3), chance("p", 6, 12, over="Gap"), chance("q", 7, 10, by="Bex"),
                 chance("o", 4, 7), chance("n", 40, 41), chance("m", 42, 43, by="Bex")]
        world = world_of(satellite("Ara"), satellite("Bex"), station(antennas=3), station("Gap"), *lines)
        made = ((9, 4), (3, 3), (9, 4), (5, 3))
        b, d, p, o = ("recording", 1), ("recording", 3), ("pass", 0), ("pass", 2)
        a, c, q = ("recording", 0), ("recording", 2), ("pass", 1)
        self.assert_breaches(world, (made, (0, 0, 1, 2, 2)), [
            ("busy", b, d), ("busy", b, p), ("busy", b, o), ("busy", d, p), ("busy", d, o), ("busy", p, o),
            ("busy", a, c), ("busy", a, q), ("busy", c, q)])


class Stores(RulesCase):

    def world_with_store(self, store, size=5):
        return world_of(satellite(store=store), station(), recording("a", 2, 2, 1, size=4),
                        recording("b", 5, 5, 1, size=size), recording("c", 20, 20, 1, size=8),
                        chance("p", 10, 12), chance("q", 30, 31))

    def test_just_full_and_one_over(self):
        plan = (((2, 0), (5, 0), None), (0, None))
        self.assert_breaches(self.world_with_store(10), plan, [])
        self.assert_breaches(self.world_with_store(9), plan, [])
        self.assert_breaches(self.world_with_store(8), plan, [("store", 0, 5)])
        self.assert_breaches(self.world_with_store(4), plan, [("store", 0, 5)])
        self.assert_breaches(self.world_with_store(3), plan, [("store", 0, 2)])
        self.assert_breaches(self.world_with_store(0), plan, [("store", 0, 2)])

    def test_only_the_first_minute(self):
        plan = (((2, 0), (5, 0), (20, 1)), (0, 0))
        self.assert_breaches(self.world_with_store(8), plan, [("store", 0, 5)])
        self.assert_breaches(self.world_with_store(7), plan, [("store", 0, 5)])
        self.assert_breaches(self.world_with_store(7, size=3), plan, [("store", 0, 20)])

    def test_it_is_held_up_to_the_end_of_the_pass(self):
        for start, found in [(11, [("store", 0, 11)]), (12, [])]:
            world = world_of(satellite(store=9), station(), recording("a", 2, 2, 1, size=5),
                             recording("b", start, start, 1, size=5), chance("p", 5, 12), chance("q", 30, 31))
            self.assertEqual(case_breaches(world, (((2, 0), (start, 1)), (OPEN, OPEN))), found)

    def test_also_if_the_pass_is_not_taken(self):
        world = self.world_with_store(3)
        self.assertEqual(case_breaches(world, (((2, 0), None, None), (OPEN, OPEN))), [("store", 0, 2)])
        self.assertEqual(case_breaches(world, (((2, 0), None, None), (None, OPEN))),
                         [("untaken", 0), ("store", 0, 2)])

    def test_at_the_first_and_at_the_last_minute(self):
        world = world_of(satellite(store=4), station(), recording("a", 0, 0, 1, size=5), chance("p", 59, 60))
        self.assert_breaches(world, (((0, 0),), (0,)), [("store", 0, 0)])
        world = world_of(satellite(store=4), station(), recording("a", 58, 58, 1, size=5), chance("p", 59, 60))
        self.assert_breaches(world, (((58, 0),), (0,)), [("store", 0, 58)])

    def test_a_store_of_nothing(self):
        self.assert_breaches(self.world_with_store(0, size=0), ((None, (5, 0), None), (0, None)), [])
        self.assert_breaches(self.world_with_store(0), ((None, None, None), (0, 0)), [])


class Energy(RulesCase):

    def world_with(self, reserve, **fields):
        return world_of(satellite(battery=20, reserve=reserve, **fields), station(),
                        recording("a", 2, 2, 1, energy=3), recording("b", 5, 5, 1, energy=4),
                        chance("p", 10, 12, energy=5))

    def test_just_the_reserve_and_one_below(self):
        plan = (((2, 0), (5, 0)), (0,))
        self.assert_breaches(self.world_with(8), plan, [])
        self.assert_breaches(self.world_with(9), plan, [("energy", 0, 10)])
        self.assert_breaches(self.world_with(13), plan, [("energy", 0, 10)])
        self.assert_breaches(self.world_with(14), plan, [("energy", 0, 5)])
        self.assert_breaches(self.world_with(17), plan, [("energy", 0, 5)])
        self.assert_breaches(self.world_with(18), plan, [("energy", 0, 2)])
        self.assert_breaches(self.world_with(20), plan, [("energy", 0, 2)])

    def test_the_level_at_the_start_may_be_the_reserve(self):
        self.assert_breaches(self.world_with(20), ((None, None), (None,)), [])
        self.assert_breaches(self.world_with(0, level=0), ((None, None), (None,)), [])

    def test_the_charge_comes_too_late_for_its_minute(self):
        plan = ((None, None), (0,))
        self.assert_breaches(self.world_with(15, level=19, charge=1, light=" 10 12"), plan, [("energy", 0, 10)])
        self.assert_breaches(self.world_with(15, level=19, charge=1, light=" 9 12"), plan, [])

    def test_several_things_at_one_minute(self):
        for reserve, found in [(11, []), (12, [("energy", 0, 6)])]:
            world = world_of(satellite("Ara", battery=20, reserve=reserve), station(antennas=3),
                             chance("p", 6, 7, energy=2), chance("q", 6, 8, energy=3), chance("o", 6, 9, energy=4))
            found = [("busy", ("pass", 0), ("pass", 1)), ("busy", ("pass", 0), ("pass", 2)),
                     ("busy", ("pass", 1), ("pass", 2))] + found
            self.assert_breaches(world, ((), (0, 1, 2)), found)

    def test_at_the_first_and_at_the_last_minute(self):
        for minute in (0, 59):
            world = world_of(satellite(battery=20, light=" 0 60", charge=1), station(),
                             chance("p", minute, minute + 1, energy=21))
            self.assert_breaches(world, ((), (0,)), [("energy", 0, minute)])

    def test_only_what_is_made_and_taken(self):
        world = self.world_with(20)
        self.assertEqual(case_breaches(world, ((OPEN, (4, 0)), (1,))), [("option", 1), ("antenna", 0)])
        self.assertEqual(case_breaches(world, ((OPEN, OPEN), (OPEN,))), [])


class SeveralKinds(RulesCase):

    def test_all_kinds_at_once_in_their_order(self):
        world = world_of(
            satellite("Ara", store=4, battery=9, reserve=2, settle=2), satellite("Bex", store=1, battery=3),
            station("Fell", antennas=2, turn=3), station("Gap"),
            recording("a", 0, 0, 2, size=5, energy=4), recording("b", 3, 3, 2, size=1, energy=4),
            recording("c", 5, 5, 2, size=1), recording("d", 0, 0, 2, by="Bex", size=2, energy=4),
            recording("e", 8, 8, 1, size=2),
            chance("p", 10, 13, room=5), chance("q", 15, 18, by="Bex", room=2), chance("o", 40, 45),
            chance("n", 50, 51, over="Gap"))
        made = ((0, 0), (3, 0), (6, 2), (0, 1), (8, 2))
        self.assert_breaches(world, (made, (1, 1, None, 1)), [
            ("option", 2), ("untaken", 4), ("room", 0), ("antenna", 3), ("turn", 0, 1),
            ("busy", ("recording", 0), ("recording", 1)), ("busy", ("recording", 4), ("pass", 0)),
            ("store", 0, 0), ("energy", 0, 3), ("store", 1, 0), ("energy", 1, 0)])

    def test_stores_and_energy_go_by_the_satellites(self):
        lines = [recording(f"r{k}", 4 - k, 4 - k, 1, by=f"s{k}", size=2, energy=2) for k in range(3)]
        lines += [chance(f"p{k}", 10, 11, by=f"s{k}") for k in range(3)]
        satellites = [satellite(f"s{k}", store=1, battery=1) for k in range(3)]
        world = world_of(*satellites, station(antennas=3), *lines)
        self.assert_breaches(world, (((4, 0), (3, 1), (2, 2)), (0, 1, 2)), [
            ("store", 0, 4), ("energy", 0, 4), ("store", 1, 3), ("energy", 1, 3), ("store", 2, 2), ("energy", 2, 2)])

    def test_the_empty_plan_keeps_the_rules(self):
        for recordings in range(11):
            for passes in range(11):
                world = World.parse(text_of(world_lines(3, 3, recordings, passes)))
                self.assert_breaches(world, empty_plan(world), [])
                self.assertEqual(case_breaches(world, open_case(world)), [])
        self.assert_breaches(World.parse("horizon 1\n"), ((), ()), [])

    def test_the_sample(self):
        # Neither start leaves the two minutes to settle ahead of the pass.
        found = [("busy", ("recording", 0), ("pass", 0))]
        self.assert_breaches(sample_world(), (((4, 0),), (0,)), found)
        self.assert_breaches(sample_world(), (((5, 0),), (0,)), found)
        self.assert_breaches(sample_world(), (((4, 0),), (None,)), [("untaken", 0)])
        self.assert_breaches(sample_world(), ((None,), (0,)), [])


class WrongForms(unittest.TestCase):

    def assert_none(self, calls, pair):
        for call in calls:
            with self.subTest(call=call, pair=pair), self.assertRaises(BadPlan):
                call(sample_world(), pair)

    def test_what_is_no_case(self):
        wrong = [((), (None,)), ((None, None), (None,)), ((None,), ()), ((None,), (None, None)), ((), ()),
                 ((OPEN,), ()), ((OPEN, OPEN), (OPEN,)), ((OPEN,), (OPEN, OPEN)), (((4, 1),), (None,)),
                 (((4, 1),), (OPEN,)), (((4, -1),), (None,)), (((4, 10),), (0,))]
        for pair in wrong:
            self.assert_none((case_breaches, breaches, keeps_rules), pair)

    def test_an_open_entry_is_none_of_a_plan(self):
        for pair in [((OPEN,), (None,)), ((None,), (OPEN,)), ((OPEN,), (OPEN,)), (((4, 0),), (OPEN,)),
                     ((OPEN,), (0,)), (((9, 0),), (OPEN,))]:
            self.assert_none((breaches, keeps_rules), pair)
            self.assertIsInstance(case_breaches(sample_world(), pair), list)


class AllPlans(unittest.TestCase):
    """Point 22 over all cases and plans of a small world."""

    def setUp(self):
        self.world = world_of(
            satellite(store=6, battery=9, reserve=1, settle=1), station(antennas=2, turn=2),
            recording("a", 1, 2, 2, size=4, energy=3), recording("b", 4, 5, 2, size=3, energy=4),
            chance("p", 5, 8, room=4, energy=2), chance("q", 9, 12, room=6, energy=2))
        made = [[None, *options(self.world, r), (0, 0)] for r in range(2)]
        taken = [None, 0, 1, 2]
        self.plans = [(one, other) for one in itertools.product(*made)
                      for other in itertools.product(taken, taken)]
        made = [[OPEN, *entries] for entries in made]
        taken = [OPEN, *taken]
        self.cases = [(one, other) for one in itertools.product(*made)
                      for other in itertools.product(taken, taken)]
        self.kept = {plan for plan in self.plans if keeps_rules(self.world, plan)}

    def test_some_plans_keep_the_rules_and_some_do_not(self):
        self.assertIn((((1, 1), None), (None, 0)), self.kept)
        self.assertIn((((1, 0), None), (0, None)), self.kept)
        self.assertLess(len(self.kept), len(self.plans))

    def test_every_plan_of_a_case_with_a_breach_has_one(self):
        for case in self.cases:
            if case_breaches(self.world, case):
                for plan in self.kept:
                    self.assertIs(belongs(plan, case), False, (plan, case))

    def test_what_is_left_out_breaks_no_rule(self):
        for made, taken in self.kept:
            for r in range(2):
                self.assertIn((tuple(None if k == r else made[k] for k in range(2)), taken), self.kept)
            for p in range(2):
                rest = tuple(None if pair is not None and pair[1] == p else pair for pair in made)
                self.assertIn((rest, tuple(None if k == p else taken[k] for k in range(2))), self.kept)


class AskedAgain(unittest.TestCase):

    def test_the_list_is_new(self):
        world = sample_world()
        plan = (((9, 0),), (5,))
        for ask in (breaches, case_breaches):
            found = ask(world, plan)
            self.assertEqual(found, [("option", 0), ("antenna", 0)])
            found.clear()
            self.assertEqual(ask(world, plan), [("option", 0), ("antenna", 0)])
            empty = ask(world, empty_plan(world))
            empty.append(("option", 0))
            self.assertEqual(ask(world, empty_plan(world)), [])
        self.assertIs(keeps_rules(world, plan), False)
        self.assertIs(keeps_rules(world, empty_plan(world)), True)


if __name__ == "__main__":
    unittest.main()
