"""Points 2, 23 and 24: values and weights."""

import itertools
import unittest

from downpass.plans import empty_plan
from downpass.worlds import World
from downpass.worth import base_of, is_better, recording_weight, value_of, weight_of
from tests.samples import sample_world
from tests.small_worlds import chance, recording, satellite, station, world_of


def ranked_world(worths, fees):
    """A world with recordings of these (rank, worth), and passes of these fees."""
    lines = [recording(f"r{k}", 0, 0, 1, rank=rank, worth=worth) for k, (rank, worth) in enumerate(worths)]
    lines += [chance(f"p{k}", 10, 11, fee=fee) for k, fee in enumerate(fees)]
    return world_of(satellite(), station(), *lines)


def all_plans(world, entries=(None, (0, 0)), antennas=(None, 0)):
    """All plans of a world with these entries."""
    made = itertools.product(entries, repeat=len(world.recordings))
    taken = list(itertools.product(antennas, repeat=len(world.passes)))
    return [(one, other) for one in made for other in taken]


class Values(unittest.TestCase):

    def test_each_rank(self):
        world = ranked_world([(1, 5), (2, 7), (3, 11), (1, 13), (2, 17), (3, 19)], [2, 3])
        self.assertEqual(value_of(world, empty_plan(world)), (0, 0, 0, 0))
        for r, due in enumerate([(5, 0, 0, 0), (0, 7, 0, 0), (0, 0, 11, 0), (13, 0, 0, 0), (0, 17, 0, 0),
                                 (0, 0, 19, 0)]):
            made = tuple((0, 0) if k == r else None for k in range(6))
            self.assertEqual(value_of(world, (made, (None, None))), due)
        self.assertEqual(value_of(world, (((0, 0),) * 6, (0, 0))), (18, 24, 30, -5))

    def test_fees(self):
        world = ranked_world([], [2, 0, 1000])
        for taken, fees in [((None, None, None), 0), ((0, None, None), 2), ((None, 0, None), 0),
                            ((None, None, 0), 1000), ((0, 0, 0), 1002)]:
            self.assertEqual(value_of(world, ((), taken)), (0, 0, 0, -fees))

    def test_entries_that_are_no_options_or_no_antennas_count(self):
        world = ranked_world([(1, 5), (2, 7)], [2])
        for entry in [(0, 0), (1, 0), (-3, 0), (99, 0)]:
            for antenna in [0, 1, -1, 99]:
                self.assertEqual(value_of(world, ((entry, None), (antenna,))), (5, 0, 0, -2))
                self.assertEqual(weight_of(world, ((None, entry), (antenna,))), 7 * 13 * 13 - 2)

    def test_it_is_a_tuple(self):
        self.assertIs(value_of(sample_world(), ((None,), (None,))).__class__, tuple)
        self.assertEqual(value_of(World.parse("horizon 1\n"), ((), ())), (0, 0, 0, 0))


class Better(unittest.TestCase):

    def test_from_the_first_element_on(self):
        world = ranked_world([(1, 1), (2, 1000), (3, 1000), (3, 1)], [1000, 1])
        none = (None, None)
        rising = [
            ((None, None, None, None), (0, 0)), ((None, None, None, None), (0, None)),
            ((None, None, None, None), (None, 0)), ((None, None, None, None), none),
            ((None, None, None, (0, 0)), (0, 0)), ((None, None, None, (0, 0)), none),
            ((None, None, (0, 0), None), (0, 0)), ((None, None, (0, 0), None), none),
            ((None, None, (0, 0), (0, 0)), (0, 0)), ((None, (0, 0), None, None), (0, 0)),
            ((None, (0, 0), None, None), none), ((None, (0, 0), (0, 0), (0, 0)), none),
            (((0, 0), None, None, None), (0, 0)), (((0, 0), (0, 0), (0, 0), (0, 0)), none)]
        for k, one in enumerate(rising):
            for j, other in enumerate(rising):
                self.assertIs(is_better(world, one, other), k > j, (one, other))
                self.assertIs(weight_of(world, one) > weight_of(world, other), k > j)

    def test_plans_of_one_value(self):
        world = ranked_world([(2, 4), (2, 4)], [3, 3])
        one, other = (((0, 0), None), (0, None)), ((None, (0, 1)), (None, 0))
        self.assertIs(is_better(world, one, other), False)
        self.assertIs(is_better(world, other, one), False)
        self.assertIs(is_better(world, one, one), False)
        self.assertEqual(weight_of(world, one), weight_of(world, other))


class Weights(unittest.TestCase):

    def test_the_base(self):
        self.assertEqual(base_of(ranked_world([(1, 5), (2, 7)], [3, 8])), 13)
        self.assertEqual(base_of(ranked_world([(1, 5), (2, 7)], [4, 8])), 13)
        self.assertEqual(base_of(ranked_world([(1, 5), (2, 7)], [5, 8])), 14)
        self.assertEqual(base_of(ranked_world([], [])), 1)
        self.assertEqual(base_of(ranked_world([], [0])), 1)
        self.assertEqual(base_of(ranked_world([(3, 1)], [])), 2)
        self.assertEqual(base_of(ranked_world([(1, 1000)] * 10, [1000] * 10)), 10001)
        self.assertEqual(base_of(World.parse("horizon 1\n")), 1)

    def test_the_weight_of_a_recording(self):
        world = ranked_world([(1, 2), (2, 3), (3, 4)], [])
        self.assertEqual([recording_weight(world, r) for r in range(3)], [2000, 300, 40])
        world = ranked_world([(1, 1000)] * 10, [])
        self.assertEqual(recording_weight(world, 9), 1000 * 10001 ** 3)

    def test_the_weight_of_a_plan(self):
        world = ranked_world([(1, 2), (2, 3), (3, 4)], [5, 3])
        for entries in itertools.product([0, 1], repeat=5):
            made = tuple((0, 0) if on else None for on in entries[:3])
            taken = tuple(0 if on else None for on in entries[3:])
            due = sum(on * part for on, part in zip(entries, [2000, 300, 40, -5, -3]))
            self.assertEqual(weight_of(world, (made, taken)), due)
        self.assertEqual(weight_of(World.parse("horizon 1\n"), ((), ())), 0)

    def test_better_exactly_if_the_weight_is_greater(self):
        worlds = [
            ranked_world([(1, 1), (2, 1), (3, 1)], [1, 2]), ranked_world([(1, 1), (2, 2), (3, 3)], []),
            ranked_world([(1, 1), (2, 1000), (3, 1000)], [1000, 1]), ranked_world([(3, 1)], [1, 0, 1000, 1000]),
            ranked_world([(3, 1), (3, 1), (2, 1)], [0, 1]), ranked_world([], [1, 2, 3]), ranked_world([(2, 3)], [])]
        for world in worlds:
            plans = all_plans(world)
            for one, other in itertools.product(plans, plans):
                self.assertIs(is_better(world, one, other), weight_of(world, one) > weight_of(world, other))

    def test_numbers_are_integers(self):
        world = sample_world()
        plan = (((4, 0),), (0,))
        for number in (base_of(world), recording_weight(world, 0), weight_of(world, plan), *value_of(world, plan)):
            self.assertIs(number.__class__, int)


class AskedAgain(unittest.TestCase):

    def test_another_world_in_between_changes_nothing(self):
        world, other = sample_world(), ranked_world([(1, 2), (2, 3)], [5])
        plan = (((4, 0),), (0,))
        self.assertEqual((base_of(world), recording_weight(world, 0), weight_of(world, plan)), (10, 9000, 8999))
        self.assertEqual((base_of(other), recording_weight(other, 0)), (6, 432))
        self.assertEqual((base_of(world), recording_weight(world, 0), weight_of(world, plan)), (10, 9000, 8999))
        self.assertEqual(value_of(world, plan), (9, 0, 0, -1))


if __name__ == "__main__":
    unittest.main()
