"""Points 2, 25: rows, their parts and their sides."""

import random
import unittest

from downpass.errors import BadRow
from downpass.plans import empty_plan
from downpass.rows import check_row, left_side, pass_part, recording_part, right_side
from downpass.rules import keeps_rules
from downpass.worlds import World
from tests import paper_reckoning, reckoning
from tests.made_worlds import facts_of, made_case, made_world
from tests.small_worlds import chance, recording, satellite, station, world_of
from tests.tiny_worlds import kept_plans, tiny_world

ROWS = [("room", 0), ("station", 0, 4), ("satellite", 0, 4), ("store", 0, 4), ("energy", 0, 4),
        ("energy from", 0, 3, 4)]


def row_world(settle=0, turn=0, horizon=60):
    """A world with two satellites, two stations, a recording and a pass of each satellite."""
    return world_of(
        satellite("Ara", store=50, battery=70, level=60, reserve=9, charge=3, settle=settle, light=" 2 6 10 12"),
        satellite("Bex", store=40, battery=30, reserve=0),
        station("Fell", antennas=2, turn=turn), station("Gap", antennas=3),
        recording("ice", 4, 6, 5, size=7, energy=8, until=30),
        recording("sea", 4, 6, 5, by="Bex", size=5, energy=6, until=30),
        chance("p", 12, 16, room=11, energy=4), chance("q", 20, 24, by="Bex", over="Gap", room=13, energy=2),
        horizon=horizon)


class Parts(unittest.TestCase):

    def assert_minutes(self, part, amount, minutes):
        """The part is the amount at just these minutes, and 0 at all others."""
        for minute in range(60):
            self.assertEqual(part(minute), amount if minute in minutes else 0, minute)

    def test_rooms(self):
        world = row_world()
        for p in range(2):
            for start in (4, 6, -1, 59):
                self.assertEqual(recording_part(world, ("room", p), 0, (start, 0)), 7 if p == 0 else 0)
                self.assertEqual(recording_part(world, ("room", p), 1, (start, 1)), 5 if p == 1 else 0)
                self.assertEqual(recording_part(world, ("room", p), 0, (start, 1)), 7 if p == 1 else 0)
        self.assertEqual([pass_part(world, ("room", 0), p) for p in range(2)], [-11, 0])
        self.assertEqual([pass_part(world, ("room", 1), p) for p in range(2)], [0, -13])

    def test_stations(self):
        for turn in (0, 1, 7, 60):
            world = row_world(turn=turn)
            self.assert_minutes(lambda m: pass_part(world, ("station", 0, m), 0), 1, range(12, 16 + turn))
            self.assert_minutes(lambda m: pass_part(world, ("station", 1, m), 1), 1, range(20, 24))
            self.assert_minutes(lambda m: pass_part(world, ("station", 1, m), 0), 0, [])
            self.assert_minutes(lambda m: pass_part(world, ("station", 0, m), 1), 0, [])
            for s in range(2):
                self.assert_minutes(lambda m: recording_part(world, ("station", s, m), s, (4, s)), 0, [])

    def test_satellites(self):
        for settle in (0, 1, 7, 60):
            world = row_world(settle=settle)
            for start in (4, 6, 50):
                self.assert_minutes(lambda m: recording_part(world, ("satellite", 0, m), 0, (start, 0)), 1,
                                    range(start, start + 5 + settle))
            self.assert_minutes(lambda m: pass_part(world, ("satellite", 0, m), 0), 1, range(12, 16 + settle))
            self.assert_minutes(lambda m: recording_part(world, ("satellite", 1, m), 1, (6, 1)), 1, range(6, 11))
            self.assert_minutes(lambda m: pass_part(world, ("satellite", 1, m), 1), 1, range(20, 24))
            for s in range(2):
                self.assert_minutes(lambda m: recording_part(world, ("satellite", 1 - s, m), s, (4, s)), 0, [])
                self.assert_minutes(lambda m: pass_part(world, ("satellite", 1 - s, m), s), 0, [])

    def test_stores(self):
        world = row_world(settle=3, turn=3)
        for start in (4, 6, 12, 15):
            self.assert_minutes(lambda m: recording_part(world, ("store", 0, m), 0, (start, 0)), 7, range(start, 16))
            self.assert_minutes(lambda m: recording_part(world, ("store", 0, m), 0, (start, 1)), 7, range(start, 24))
        for start in (16, 17, 59):
            self.assert_minutes(lambda m: recording_part(world, ("store", 0, m), 0, (start, 0)), 0, [])
        self.assert_minutes(lambda m: recording_part(world, ("store", 1, m), 0, (4, 0)), 0, [])
        self.assert_minutes(lambda m: recording_part(world, ("store", 1, m), 1, (4, 1)), 5, range(4, 24))
        for p in range(2):
            for s in range(2):
                self.assert_minutes(lambda m: pass_part(world, ("store", s, m), p), 0, [])

    def test_energy(self):
        world = row_world(settle=3, turn=3)
        for start in (0, 4, 6, 59):
            self.assert_minutes(lambda m: recording_part(world, ("energy", 0, m), 0, (start, 0)), 8, range(start, 60))
            self.assert_minutes(lambda m: recording_part(world, ("energy", 1, m), 1, (start, 0)), 6, range(start, 60))
        self.assert_minutes(lambda m: pass_part(world, ("energy", 0, m), 0), 4, range(12, 60))
        self.assert_minutes(lambda m: pass_part(world, ("energy", 1, m), 1), 2, range(20, 60))
        for s in range(2):
            self.assert_minutes(lambda m: recording_part(world, ("energy", 1 - s, m), s, (4, 0)), 0, [])
            self.assert_minutes(lambda m: pass_part(world, ("energy", 1 - s, m), s), 0, [])

    def test_energy_from(self):
        world = row_world(settle=3, turn=3)
        for first in (0, 3, 4, 5, 11, 12, 13, 58):
            for last in range(first + 1, 60):
                row, other = ("energy from", 0, first, last), ("energy from", 1, first, last)
                for start in (0, 4, 5, 6):
                    due = 8 if first < start <= last else 0
                    self.assertEqual(recording_part(world, row, 0, (start, 0)), due, (row, start))
                    self.assertEqual(recording_part(world, other, 0, (start, 0)), 0)
                self.assertEqual(pass_part(world, row, 0), 4 if first < 12 <= last else 0, row)
                self.assertEqual(pass_part(world, other, 0), 0)
                self.assertEqual(pass_part(world, other, 1), 2 if first < 20 <= last else 0, row)


class Sides(unittest.TestCase):

    def test_right_sides_without_minutes(self):
        world = row_world(settle=3, turn=3)
        for minute in (0, 1, 30, 59):
            for number in range(2):
                self.assertEqual(right_side(world, ("room", number)), 0)
                self.assertEqual(right_side(world, ("station", number, minute)), [2, 3][number])
                self.assertEqual(right_side(world, ("satellite", number, minute)), 1)
                self.assertEqual(right_side(world, ("store", number, minute)), [50, 40][number])

    def test_right_sides_of_energy(self):
        world = row_world()
        lit = [2, 3, 4, 5, 10, 11]
        for minute in range(60):
            due = 60 - 9 + 3 * len([m for m in lit if m < minute])
            self.assertEqual(right_side(world, ("energy", 0, minute)), due)
            self.assertEqual(right_side(world, ("energy", 1, minute)), 30)
            for first in range(minute):
                due = 70 - 9 + 3 * len([m for m in lit if first < m < minute])
                self.assertEqual(right_side(world, ("energy from", 0, first, minute)), due, (first, minute))
                self.assertEqual(right_side(world, ("energy from", 1, first, minute)), 30)

    def test_left_sides(self):
        world = row_world()
        self.assertEqual(left_side(world, ("room", 0), (((4, 0), (4, 0)), (0, None))), 7 + 5 - 11)
        self.assertEqual(left_side(world, ("room", 0), (((4, 0), (4, 1)), (None, 0))), 7)
        self.assertEqual(left_side(world, ("satellite", 0, 12), (((8, 0), None), (0, None))), 2)
        self.assertEqual(left_side(world, ("satellite", 0, 13), (((8, 0), None), (0, None))), 1)
        self.assertEqual(left_side(world, ("energy", 0, 59), (((8, 0), (4, 1)), (0, 0))), 12)
        for row in ROWS:
            self.assertEqual(left_side(world, row, empty_plan(world)), 0)

    def test_entries_that_are_no_options_or_no_antennas_count(self):
        world = row_world()
        for antenna in (0, 2, 99, -1):
            self.assertEqual(left_side(world, ("room", 0), ((None, None), (antenna, None))), -11)
            self.assertEqual(left_side(world, ("station", 0, 12), ((None, None), (antenna, None))), 1)
            self.assertEqual(left_side(world, ("energy", 0, 12), ((None, None), (antenna, None))), 4)
        for entry in ((40, 0), (-3, 1), (3, 0)):
            self.assertEqual(left_side(world, ("energy", 0, 59), ((entry, None), (None, None))), 8)
            self.assertEqual(left_side(world, ("room", entry[1]), ((entry, None), (None, None))), 7)


class NoRows(unittest.TestCase):

    def setUp(self):
        self.world = row_world(horizon=30)

    def test_rows(self):
        for row in ROWS + [("room", 1), ("station", 1, 0), ("satellite", 1, 29), ("store", 1, 0), ("store", 1, 29),
                           ("energy", 1, 0), ("energy", 1, 29), ("energy from", 1, 0, 29), ("energy from", 1, 28, 29)]:
            self.assertIsNone(check_row(self.world, row))

    def test_what_is_no_row(self):
        found = [(), ("room",), ("room", 0, 0), ("room", -1), ("room", 2), ("energy from", 0, 4), ("energy from",),
                 ("energy from", 0, 4, 4), ("energy from", 0, 5, 4), ("energy from", 0, 29, 29), ("energy from", 0),
                 ("energy from", 0, -1, 4), ("energy from", 0, 4, 30), ("energy from", 0, 3, 4, 5), ("room", 0, 4),
                 ("energy from", 2, 3, 4), ("energy from", -1, 3, 4), ("energy from", 0, -2, -1),
                 ("energy from", 0, 30, 31), ("battery", 0, 4), ("passes", 0), ("Room", 0), ("", 0), ("room ", 0),
                 ("energyfrom", 0, 3, 4), (0, 0, 4), (None, 0), ("room", None), ("room", "0"), ("station", 0, None),
                 ("store", "Ara", 4), ("store", 0, "4"), (("room", 0),), ("room", (0,)), "room", None, 4]
        for word in ("station", "satellite", "store", "energy"):
            found += [(word,), (word, 0), (word, 0, 4, 5), (word, -1, 4), (word, 2, 4), (word, 0, -1), (word, 0, 30),
                      (0, word, 4), (word, 4, 0)]
        for row in found:
            with self.assertRaises(BadRow, msg=row):
                check_row(self.world, row)

    def test_lists_and_truth_values_are_no_rows_or_numbers(self):
        for row in [["room", 0], ([], 0), ({}, 0), ("room", True), ("room", False), ("room", []), ("store", 0, False)]:
            with self.assertRaises(BadRow, msg=row):
                check_row(self.world, row)

    def test_every_tuple_of_small_numbers(self):
        world = world_of(satellite(), station("Fell"), station("Gap"), chance("p", 0, 1), chance("q", 1, 2),
                         chance("r", 2, 3), horizon=4)
        rows = paper_reckoning.all_rows(world)
        self.assertEqual(len(rows), 3 + 2 * 4 + 3 * 4 + 6)
        numbers = range(-1, 5)
        tuples = [(word,) for word in ("room", "station", "satellite", "store", "energy", "energy from", "light")]
        for _ in range(4):
            for row in tuples:
                if row in rows:
                    self.assertIsNone(check_row(world, row))
                else:
                    with self.assertRaises(BadRow, msg=row):
                        check_row(world, row)
            tuples = [row + (number,) for row in tuples for number in numbers]

    def test_a_world_with_nothing_has_no_rows(self):
        for row in ROWS:
            with self.assertRaises(BadRow):
                check_row(World.parse("horizon 9\n"), row)


class SecondReckoning(unittest.TestCase):

    def test_parts_and_sides_in_made_worlds(self):
        for seed in range(300):
            world = made_world(seed)
            dice = random.Random(seed)
            pairs = reckoning.options_of(world)
            plans = [made_case(world, pairs, seed * 7 + k, False) for k in range(2)]
            rows = paper_reckoning.all_rows(world)
            for row in dice.sample(rows, min(len(rows), 40)):
                self.assertIsNone(check_row(world, row))
                self.assertEqual(right_side(world, row), paper_reckoning.right_of(world, row), (world.text, row))
                for plan in plans:
                    due = paper_reckoning.left_of(world, row, plan)
                    self.assertEqual(left_side(world, row, plan), due, (world.text, row, plan))
                    self.assert_parts(world, row, plan)

    def assert_parts(self, world, row, plan):
        """The parts of the entries of a plan are as in the second reckoning."""
        for r, entry in enumerate(plan[0]):
            if entry is not None:
                due = paper_reckoning.recording_part_of(world, row, r, entry)
                self.assertEqual(recording_part(world, row, r, entry), due, (world.text, row, entry))
        for p in range(len(plan[1])):
            self.assertEqual(pass_part(world, row, p), paper_reckoning.pass_part_of(world, row, p), (world.text, row))

    def test_every_row_holds_for_every_plan_that_keeps_the_rules(self):
        tight = set()
        for seed in range(120):
            world = tiny_world(seed)
            rows = paper_reckoning.all_rows(world)
            plans = kept_plans(world)
            for plan in random.Random(seed).sample(plans, min(len(plans), 12)):
                self.assertIs(keeps_rules(world, plan), True)
                for row in rows:
                    left, right = left_side(world, row, plan), right_side(world, row)
                    self.assertLessEqual(left, right, (world.text, row, plan))
                    if left == right != 0:
                        tight.add(row[0])
        self.assertLessEqual({"station", "satellite", "store", "energy", "energy from"}, tight)

    def test_of_random_plans_too(self):
        for seed in range(200):
            world = made_world(seed)
            plan = made_case(world, reckoning.options_of(world), seed * 100 + 3, False)
            if keeps_rules(world, plan):
                for row in paper_reckoning.all_rows(world):
                    self.assertLessEqual(left_side(world, row, plan), right_side(world, row), (world.text, row))


class AskedAgain(unittest.TestCase):

    def test_another_world_in_between_changes_nothing(self):
        world, other = row_world(settle=1, turn=2), row_world(settle=4, horizon=30)
        plan = (((4, 0), (5, 1)), (0, 0))
        facts = facts_of(world)
        first = [(right_side(world, row), left_side(world, row, plan)) for row in ROWS]
        for row in ROWS:
            right_side(other, row)
            left_side(other, row, plan)
        self.assertEqual([(right_side(world, row), left_side(world, row, plan)) for row in ROWS], first)
        self.assertEqual(facts_of(world), facts)


if __name__ == "__main__":
    unittest.main()
