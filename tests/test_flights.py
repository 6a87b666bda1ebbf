"""Points 2 and 18 to 20: what happens in a case."""

import unittest

from downpass.errors import BadPlan
from downpass.flights import Flight, battery_levels, spending, store_used
from downpass.plans import OPEN, empty_plan
from downpass.worlds import World
from tests.samples import sample_world
from tests.small_worlds import chance, recording, satellite, station, world_of


def wide_world():
    """A recording with room on all sides, and passes that can and cannot send it."""
    return world_of(
        satellite("Ara", store=50, battery=40), satellite("Bex"), station("Fell", antennas=2), station("Gap"),
        recording("ice", 4, 6, 3, size=7, energy=8, until=30),
        chance("p", 7, 10, energy=3), chance("q", 8, 30, energy=5), chance("late", 9, 31),
        chance("other", 10, 20, by="Bex"), chance("gap", 10, 20, over="Gap", energy=2))


def only_made(entry, passes=5):
    """The case of the wide world with this entry of its recording, and nothing taken."""
    return ((entry,), (None,) * passes)


def only_taken(p, antenna, passes=5):
    """The case of the wide world with this entry of a pass, and nothing else."""
    return ((None,), (None,) * p + (antenna,) + (None,) * (passes - p - 1))


class Made(unittest.TestCase):

    def assert_made(self, entry, start, end):
        """The recording is made: it holds, spends, and has its events."""
        world, case = wide_world(), only_made(entry)
        used = [7 if start <= minute < end else 0 for minute in range(60)]
        levels = [32 if start <= minute else 40 for minute in range(60)]
        self.assertEqual(store_used(world, case, 0), tuple(used))
        self.assertEqual(battery_levels(world, case, 0), tuple(levels))
        self.assertEqual(spending(world, case, 0), {start: 8})
        self.assertEqual(list(Flight(world, case)), [(start, "records", 0), (start + 3, "recorded", 0)])
        self.assertEqual(store_used(world, case, 1), (0,) * 60)
        self.assertEqual(battery_levels(world, case, 1), (100,) * 60)

    def assert_counts_for_nothing(self, case):
        """Nothing is made and nothing is taken in the case."""
        world = wide_world()
        flight = Flight(world, case)
        with self.subTest(case=case):
            self.assertEqual(flight.used, ((0,) * 60, (0,) * 60))
            self.assertEqual(flight.levels, ((40,) * 60, (100,) * 60))
            self.assertEqual((list(flight), len(flight)), ([], 0))
            for s in range(2):
                self.assertEqual(set(spending(world, case, s).values()) - {0}, set())

    def test_options(self):
        # The recording ends at the first minute of p, and q ends at the deadline.
        self.assert_made((4, 0), 4, 10)
        self.assert_made((4, 1), 4, 30)
        self.assert_made((5, 1), 5, 30)
        self.assert_made((6, 4), 6, 20)

    def test_entries_that_are_no_options(self):
        for entry in [None, OPEN]:
            self.assert_counts_for_nothing(only_made(entry))
        for start in (3, 7, -1, 0, 59, 60, 61, 500):
            self.assert_counts_for_nothing(only_made((start, 4)))
        for entry in [(5, 0), (6, 0), (6, 1), (4, 2), (4, 3)]:
            self.assert_counts_for_nothing(only_made(entry))

    def test_entries_that_are_no_antennas(self):
        for p in range(5):
            for antenna in [None, OPEN, -1, -2, 2 if p < 4 else 1, 3, 99, 1000]:
                self.assert_counts_for_nothing(only_taken(p, antenna))

    def test_antennas(self):
        world = wide_world()
        for antenna in (0, 1):
            case = only_taken(1, antenna)
            self.assertEqual(list(Flight(world, case)), [(8, "sends", 1), (30, "sent", 1)])
            self.assertEqual(spending(world, case, 0), {8: 5})
            self.assertEqual(battery_levels(world, case, 0), (40,) * 8 + (35,) * 52)
            self.assertEqual(store_used(world, case, 0), (0,) * 60)
        self.assertEqual(list(Flight(world, only_taken(4, 0))), [(10, "sends", 4), (20, "sent", 4)])

    def test_what_is_held_is_held_also_if_the_pass_is_not_taken(self):
        world = wide_world()
        for antenna in (None, OPEN, 0, 1, 2, -1):
            case = (((4, 0),), (antenna, None, None, None, None))
            self.assertEqual(store_used(world, case, 0), (0,) * 4 + (7,) * 6 + (0,) * 50)

    def test_what_is_made_counts_beside_what_counts_for_nothing(self):
        case = (((4, 0),), (0, 7, OPEN, -1, None))
        events = [(4, "records", 0), (7, "recorded", 0), (7, "sends", 0), (10, "sent", 0)]
        self.assertEqual(list(Flight(wide_world(), case)), events)


class Used(unittest.TestCase):

    def test_sizes_are_added_up_for_each_satellite(self):
        world = world_of(
            satellite("Ara"), satellite("Bex"), station(),
            recording("a", 0, 0, 2, size=1, until=7), recording("b", 1, 1, 1, size=2, until=7),
            recording("c", 0, 0, 1, by="Bex", size=4, until=7), recording("d", 3, 3, 1, size=8, until=7),
            chance("p", 2, 4), chance("q", 5, 6), chance("o", 4, 6, by="Bex"), horizon=7)
        case = (((0, 0), (1, 1), (0, 2), (3, 1)), (None, None, None))
        self.assertEqual(store_used(world, case, 0), (1, 3, 3, 11, 10, 10, 0))
        self.assertEqual(store_used(world, case, 1), (4, 4, 4, 4, 4, 4, 0))
        self.assertEqual(Flight(world, case).used, ((1, 3, 3, 11, 10, 10, 0), (4, 4, 4, 4, 4, 4, 0)))

    def test_from_the_first_minute_to_the_last(self):
        world = world_of(satellite(), station(), recording("a", 0, 0, 1, size=5, until=2), chance("p", 1, 2), horizon=2)
        self.assertEqual(store_used(world, (((0, 0),), (None,)), 0), (5, 5))

    def test_one_holds_up_to_where_the_next_one_starts(self):
        world = world_of(satellite(), station(), recording("a", 0, 0, 1, size=5), recording("b", 3, 3, 1, size=6),
                         chance("p", 1, 3), chance("q", 4, 5), horizon=60)
        case = (((0, 0), (3, 1)), (0, 0))
        self.assertEqual(store_used(world, case, 0)[:6], (5, 5, 5, 6, 6, 0))

    def test_sizes_beyond_the_store(self):
        world = world_of(satellite(store=0), station(), recording("a", 0, 0, 1, size=1000000),
                         recording("b", 0, 0, 1, size=1000000), chance("p", 1, 2))
        self.assertEqual(store_used(world, (((0, 0), (0, 0)), (None,)), 0)[:3], (2000000, 2000000, 0))


class Levels(unittest.TestCase):

    def levels_of(self, words, energies, horizon=6, **fields):
        """The levels of a satellite with passes that spend (minute, energy)."""
        lines = [chance(f"p{k}", minute, minute + 1, energy=energy) for k, (minute, energy) in enumerate(energies)]
        world = world_of(satellite(light=words, **fields), station(), *lines, horizon=horizon)
        return battery_levels(world, ((), (0,) * len(energies)), 0)

    def test_nothing_is_spent_and_there_is_no_light(self):
        self.assertEqual(self.levels_of("", [], battery=9, level=4, charge=3), (4,) * 6)

    def test_the_charge_is_added_behind_the_minutes_in_light(self):
        self.assertEqual(self.levels_of(" 0 6", [], level=10, charge=3), (10, 13, 16, 19, 22, 25))
        self.assertEqual(self.levels_of(" 1 3", [], level=10, charge=3), (10, 10, 13, 16, 16, 16))
        self.assertEqual(self.levels_of(" 0 1 2 3 3 4", [], level=10, charge=3), (10, 13, 13, 16, 19, 19))
        self.assertEqual(self.levels_of(" 5 6", [], level=10, charge=3), (10,) * 6)
        self.assertEqual(self.levels_of(" 0 6", [], level=10, charge=0), (10,) * 6)

    def test_a_battery_that_is_full(self):
        self.assertEqual(self.levels_of(" 0 6", [], battery=20, level=14, charge=3), (14, 17, 20, 20, 20, 20))
        self.assertEqual(self.levels_of(" 0 6", [], battery=19, level=14, charge=3), (14, 17, 19, 19, 19, 19))
        self.assertEqual(self.levels_of(" 0 6", [], battery=20, charge=3), (20,) * 6)
        self.assertEqual(self.levels_of(" 0 6", [], battery=0, charge=3), (0,) * 6)

    def test_what_is_spent_is_taken_off_first(self):
        # A charge that is added ahead of what is spent would be lost to the full battery.
        self.assertEqual(self.levels_of(" 0 6", [(2, 5)], battery=20, charge=3), (20, 20, 15, 18, 20, 20))
        self.assertEqual(self.levels_of(" 2 3", [(2, 5)], battery=20, charge=3), (20, 20, 15, 18, 18, 18))
        self.assertEqual(self.levels_of(" 1 2", [(2, 5)], battery=20, charge=3), (20, 20, 15, 15, 15, 15))

    def test_the_first_and_the_last_minute(self):
        self.assertEqual(self.levels_of("", [(0, 5)], battery=20), (15,) * 6)
        self.assertEqual(self.levels_of("", [(5, 5)], battery=20), (20, 20, 20, 20, 20, 15))
        self.assertEqual(self.levels_of(" 0 1", [(0, 5)], battery=20, charge=1, horizon=1), (15,))

    def test_a_level_below_nothing(self):
        self.assertEqual(self.levels_of(" 3 6", [(1, 25)], battery=20, charge=4), (20, -5, -5, -5, -1, 3))
        self.assertEqual(self.levels_of("", [(0, 1000000)], battery=1), (-999999,) * 6)

    def test_several_things_at_one_minute(self):
        spent = [(2, 5), (2, 1), (3, 4), (2, 0), (3, 2)]
        self.assertEqual(self.levels_of("", spent, battery=20), (20, 20, 14, 8, 8, 8))

    def test_each_satellite_for_itself(self):
        world = world_of(satellite("Ara", battery=9), satellite("Bex", battery=8, level=3, charge=1, light=" 0 4"),
                         station(), recording("a", 0, 0, 1, by="Bex", energy=2, until=4),
                         chance("p", 1, 3, energy=4), chance("q", 1, 2, by="Bex", energy=3), horizon=4)
        case = (((0, 1),), (0, 0))
        self.assertEqual(battery_levels(world, case, 0), (9, 5, 5, 5))
        self.assertEqual(battery_levels(world, case, 1), (1, -1, 0, 1))
        self.assertEqual(Flight(world, case).levels, ((9, 5, 5, 5), (1, -1, 0, 1)))


class Spending(unittest.TestCase):

    def test_recordings_and_passes_at_one_minute(self):
        world = world_of(satellite(), station(antennas=3), recording("a", 2, 3, 1, energy=5),
                         recording("b", 3, 3, 2, energy=7), recording("c", 3, 3, 2), chance("p", 3, 4, energy=11),
                         chance("q", 8, 9, energy=13), chance("o", 8, 9, energy=17))
        case = (((3, 1), (3, 1), (3, 2)), (2, 0, 0))
        self.assertEqual(spending(world, case, 0), {3: 23, 8: 30})
        case = (((2, 0), None, OPEN), (OPEN, None, 3))
        self.assertEqual(spending(world, case, 0), {2: 5})

    def test_what_spends_nothing(self):
        world = world_of(satellite(), station(), recording("a", 2, 2, 1), chance("p", 3, 4))
        spent = spending(world, (((2, 0),), (0,)), 0)
        self.assertEqual(set(spent.values()) | {0}, {0})
        self.assertLessEqual(set(spent), {2, 3})

    def test_it_is_spent_at_the_first_minute_alone(self):
        world = world_of(satellite(), station(), recording("a", 2, 2, 9, energy=4), chance("p", 20, 40, energy=6))
        self.assertEqual(spending(world, (((2, 0),), (0,)), 0), {2: 4, 20: 6})

    def test_of_a_satellite_that_does_nothing(self):
        world = world_of(satellite("Ara"), satellite("Bex"), station(), chance("p", 3, 4, energy=1))
        self.assertEqual(spending(world, ((), (0,)), 1), {})

    def test_the_dict_is_new(self):
        world = sample_world()
        case = (((4, 0),), (0,))
        spent = spending(world, case, 0)
        self.assertEqual(spent, {4: 8, 11: 3})
        spent.clear()
        spent[4] = 1
        self.assertEqual(spending(world, case, 0), {4: 8, 11: 3})
        self.assertEqual(battery_levels(world, case, 0)[4], 36)


class Events(unittest.TestCase):

    def test_the_sample(self):
        flight = Flight(sample_world(), (((5, 0),), (0,)))
        events = [(5, "records", 0), (11, "recorded", 0), (11, "sends", 0), (20, "sent", 0)]
        self.assertEqual(list(flight), events)
        self.assertEqual([event.__class__ for event in flight], [tuple] * 4)

    def test_the_words_of_one_minute_in_their_order(self):
        world = world_of(satellite(), station(antennas=2), recording("a", 5, 5, 2), recording("b", 3, 3, 2),
                         recording("c", 5, 5, 1), recording("d", 4, 4, 1), chance("p", 5, 9), chance("q", 3, 5),
                         chance("o", 5, 8), chance("n", 1, 5), chance("m", 10, 20))
        case = (((5, 4), (3, 4), (5, 4), (4, 4)), (0, 0, 1, 1, None))
        flight = Flight(world, case)
        self.assertEqual([event for event in flight if event[0] == 5], [
            (5, "recorded", 1), (5, "recorded", 3), (5, "sent", 1), (5, "sent", 3),
            (5, "records", 0), (5, "records", 2), (5, "sends", 0), (5, "sends", 2)])
        self.assertEqual([minute for minute, _, _ in flight], [1, 3, 3, 4, 5, 5, 5, 5, 5, 5, 5, 5, 6, 7, 8, 9])

    def test_numbers_of_two_digits_would_not_be_sorted_as_texts(self):
        lines = [chance(f"p{k}", 9 + k % 2, 12 - k % 2) for k in range(10)]
        flight = Flight(world_of(satellite(), station(), *lines), ((), (0,) * 10))
        self.assertEqual([number for _, _, number in flight], [0, 2, 4, 6, 8, 1, 3, 5, 7, 9, 1, 3, 5, 7, 9, 0, 2, 4, 6, 8])
        self.assertEqual([minute for minute, _, _ in flight], [9] * 5 + [10] * 5 + [11] * 5 + [12] * 5)

    def test_at_the_end_of_the_world(self):
        world = world_of(satellite(), station(), recording("a", 0, 0, 1, until=2), chance("p", 1, 2), horizon=2)
        events = [(0, "records", 0), (1, "recorded", 0), (1, "sends", 0), (2, "sent", 0)]
        self.assertEqual(list(Flight(world, (((0, 0),), (0,)))), events)


class Flights(unittest.TestCase):

    def test_a_world_with_nothing(self):
        flight = Flight(World.parse("horizon 3\n"), ((), ()))
        self.assertEqual((flight.used, flight.levels, list(flight), len(flight)), ((), (), [], 0))

    def test_satellites_alone(self):
        flight = Flight(world_of(satellite(), satellite("Bex", battery=7), horizon=2), ((), ()))
        self.assertEqual((flight.used, flight.levels), (((0, 0), (0, 0)), ((100, 100), (7, 7))))

    def test_attributes_are_tuples_of_tuples(self):
        flight = Flight(sample_world(), empty_plan(sample_world()))
        for attribute in (flight.used, flight.levels):
            self.assertEqual([attribute.__class__, attribute[0].__class__], [tuple, tuple])
            self.assertEqual((len(attribute), len(attribute[0])), (1, 60))

    def test_iterating_twice_and_at_once(self):
        flight = Flight(sample_world(), (((4, 0),), (0,)))
        events = [(4, "records", 0), (10, "recorded", 0), (11, "sends", 0), (20, "sent", 0)]
        self.assertEqual([list(flight), list(flight), len(flight)], [events, events, 4])
        pairs = [(one, other) for one in flight for other in flight]
        self.assertEqual(pairs, [(one, other) for one in events for other in events])
        first = iter(flight)
        self.assertEqual(next(first), events[0])
        second = iter(flight)
        self.assertEqual([next(second), next(first), next(second)], [events[0], events[1], events[1]])
        self.assertEqual([list(first), list(second), list(flight)], [events[2:], events[2:], events])

    def test_two_flights_at_once(self):
        world = sample_world()
        one, other = Flight(world, (((4, 0),), (None,))), Flight(world, ((None,), (0,)))
        self.assertEqual(list(zip(one, other)), [((4, "records", 0), (11, "sends", 0)), ((10, "recorded", 0), (20, "sent", 0))])
        self.assertNotEqual(one.levels, other.levels)

    def test_what_is_no_case(self):
        world = sample_world()
        wrong = [((), (None,)), ((None, None), (None,)), ((None,), ()), ((None,), (None, None)), ((OPEN,), ()),
                 ((OPEN, OPEN), (OPEN,)), (((4, 1),), (None,)), (((4, -1),), (None,)), (((4, 10),), (OPEN,))]
        for case in wrong:
            with self.subTest(case=case), self.assertRaises(BadPlan):
                Flight(world, case)

    def test_open_entries_are_a_case(self):
        self.assertEqual(list(Flight(sample_world(), ((OPEN,), (OPEN,)))), [])
        self.assertEqual(len(Flight(sample_world(), ((OPEN,), (0,)))), 2)


if __name__ == "__main__":
    unittest.main()
