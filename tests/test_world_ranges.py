"""Points 5 to 9 and 12: the least and the greatest number at each place, and one beyond each."""

import unittest

from downpass.worlds import World
from tests.samples import FaultCase, text_of

AHEAD = [
    "horizon 60",
    "satellite Ara store 9 battery 50 level 40 reserve 5 charge 1 settle 2 light 0 20",
    "station Fell antennas 1 turn 3",
]

# A line with {} for the number, the number of its word, its least and its greatest value,
# and how it is found in the world.
SATELLITE = [
    ("satellite Bex store {} battery 0 level 0 reserve 0 charge 0 settle 0 light", 3, 0, 1000000, "store"),
    ("satellite Bex store 0 battery {} level 0 reserve 0 charge 0 settle 0 light", 5, 0, 1000000, "battery"),
    ("satellite Bex store 0 battery 50 level {} reserve 0 charge 0 settle 0 light", 7, 0, 50, "start_level"),
    ("satellite Bex store 0 battery 0 level {} reserve 0 charge 0 settle 0 light", 7, 0, 0, "start_level"),
    ("satellite Bex store 0 battery 1000000 level {} reserve 0 charge 0 settle 0 light",
     7, 0, 1000000, "start_level"),
    ("satellite Bex store 0 battery 50 level 40 reserve {} charge 0 settle 0 light", 9, 0, 40, "reserve"),
    ("satellite Bex store 0 battery 50 level 0 reserve {} charge 0 settle 0 light", 9, 0, 0, "reserve"),
    ("satellite Bex store 0 battery 1000000 level 1000000 reserve {} charge 0 settle 0 light",
     9, 0, 1000000, "reserve"),
    ("satellite Bex store 0 battery 0 level 0 reserve 0 charge {} settle 0 light", 11, 0, 1000, "charge"),
    ("satellite Bex store 0 battery 0 level 0 reserve 0 charge 0 settle {} light", 13, 0, 60, "settle"),
]
LIGHT = [
    ("{} 60", 15, 0, 59, 0, 0),
    ("7 {}", 16, 8, 60, 0, 1),
    ("59 {}", 16, 60, 60, 0, 1),
    ("0 20 {} 60", 17, 20, 59, 1, 0),
    ("0 59 {} 60", 17, 59, 59, 1, 0),
    ("0 20 25 {}", 18, 26, 60, 1, 1),
    ("0 1 1 2 {} 60", 19, 2, 59, 2, 0),
    ("0 1 1 2 2 {}", 20, 3, 60, 2, 1),
]
STATION = [
    ("station Gale antennas {} turn 0", 3, 1, 3, "antennas"),
    ("station Gale antennas 1 turn {}", 5, 0, 60, "turn"),
]
RECORDING = [
    ("recording r by Ara from {0} to {0} length 1 size 0 energy 0 worth 1 rank 1 until 0", 5, 0, 59, "earliest"),
    ("recording r by Ara from 0 to {} length 1 size 0 energy 0 worth 1 rank 1 until 0", 7, 0, 20, "latest"),
    ("recording r by Ara from 4 to {} length 1 size 0 energy 0 worth 1 rank 1 until 0", 7, 4, 24, "latest"),
    ("recording r by Ara from 39 to {} length 1 size 0 energy 0 worth 1 rank 1 until 0", 7, 39, 59, "latest"),
    ("recording r by Ara from 40 to {} length 1 size 0 energy 0 worth 1 rank 1 until 0", 7, 40, 59, "latest"),
    ("recording r by Ara from 59 to {} length 1 size 0 energy 0 worth 1 rank 1 until 0", 7, 59, 59, "latest"),
    ("recording r by Ara from 0 to 0 length {} size 0 energy 0 worth 1 rank 1 until 0", 9, 1, 60, "length"),
    ("recording r by Ara from 4 to 5 length {} size 0 energy 0 worth 1 rank 1 until 0", 9, 1, 55, "length"),
    ("recording r by Ara from 59 to 59 length {} size 0 energy 0 worth 1 rank 1 until 0", 9, 1, 1, "length"),
    ("recording r by Ara from 0 to 0 length 1 size {} energy 0 worth 1 rank 1 until 0", 11, 0, 1000000, "size"),
    ("recording r by Ara from 0 to 0 length 1 size 0 energy {} worth 1 rank 1 until 0", 13, 0, 1000000, "energy"),
    ("recording r by Ara from 0 to 0 length 1 size 0 energy 0 worth {} rank 1 until 0", 15, 1, 1000, "worth"),
    ("recording r by Ara from 0 to 0 length 1 size 0 energy 0 worth 1 rank {} until 0", 17, 1, 3, "rank"),
    ("recording r by Ara from 4 to 5 length 6 size 0 energy 0 worth 1 rank 1 until {}", 19, 0, 60, "deadline"),
]
PASS_SPAN = [
    ("pass q by Ara over Fell from {} to 60 room 0 energy 0 fee 0", 7, 0, 59, 0),
    ("pass q by Ara over Fell from 0 to {} room 0 energy 0 fee 0", 9, 1, 60, 1),
    ("pass q by Ara over Fell from 11 to {} room 0 energy 0 fee 0", 9, 12, 60, 1),
    ("pass q by Ara over Fell from 59 to {} room 0 energy 0 fee 0", 9, 60, 60, 1),
]
PASS = [
    ("pass q by Ara over Fell from 1 to 2 room {} energy 0 fee 0", 11, 0, 1000000, "room"),
    ("pass q by Ara over Fell from 1 to 2 room 0 energy {} fee 0", 13, 0, 1000000, "energy"),
    ("pass q by Ara over Fell from 1 to 2 room 0 energy 0 fee {}", 15, 0, 1000, "fee"),
]


class Ranges(FaultCase):

    def check_range(self, ahead, form, place, least, most, number_of):
        """The least and the greatest number are read; one beyond each is a fault at its word."""
        for number in (least, (least + most) // 2, most):
            with self.subTest(form=form, number=number):
                world = World.parse(text_of(ahead + [form.format(number)]))
                self.assertEqual(number_of(world), number)
        column = len(" ".join(form.split(" ")[:place])) + 2
        reason = "number expected" if least == 0 else "number out of range"
        self.assert_world_fault(ahead + [form.format(least - 1)], len(ahead) + 1, column, reason)
        for number in (most + 1, 9999999):
            self.assert_world_fault(
                ahead + [form.format(number)], len(ahead) + 1, column, "number out of range")

    def test_horizon(self):
        self.check_range([], "horizon {}", 1, 1, 500, lambda world: world.horizon)

    def test_satellite(self):
        for form, place, least, most, name in SATELLITE:
            self.check_range(AHEAD[:2], form, place, least, most,
                             lambda world, name=name: getattr(world.satellites[1], name))

    def test_light(self):
        for words, place, least, most, span, end in LIGHT:
            form = "satellite Bex store 0 battery 0 level 0 reserve 0 charge 0 settle 0 light " + words
            self.check_range(AHEAD[:2], form, place, least, most,
                             lambda world, span=span, end=end: world.satellites[1].light[span][end])

    def test_no_light_behind_a_span_up_to_the_horizon(self):
        line = "satellite Bex store 0 battery 0 level 0 reserve 0 charge 0 settle 0 light 0 60 "
        for number in (0, 59, 60, 61):
            self.assert_world_fault(
                AHEAD[:2] + [line + f"{number} 60"], 3, len(line) + 1, "number out of range")

    def test_station(self):
        for form, place, least, most, name in STATION:
            self.check_range(AHEAD, form, place, least, most,
                             lambda world, name=name: getattr(world.stations[1], name))

    def test_recording(self):
        for form, place, least, most, name in RECORDING:
            self.check_range(AHEAD, form, place, least, most,
                             lambda world, name=name: getattr(world.recordings[0], name))

    def test_pass(self):
        for form, place, least, most, end in PASS_SPAN:
            self.check_range(AHEAD, form, place, least, most,
                             lambda world, end=end: world.passes[0].span[end])
        for form, place, least, most, name in PASS:
            self.check_range(AHEAD, form, place, least, most,
                             lambda world, name=name: getattr(world.passes[0], name))

    def test_the_least_and_the_greatest_horizon(self):
        ahead = ["horizon 1", "satellite A store 0 battery 0 level 0 reserve 0 charge 0 settle 0 light 0 1",
                 "station S antennas 1 turn 60"]
        self.check_range(
            ahead, "recording r by A from 0 to 0 length {} size 0 energy 0 worth 1 rank 3 until 1",
            9, 1, 1, lambda world: world.recordings[0].length)
        self.check_range(
            ahead, "pass p by A over S from {} to 1 room 0 energy 0 fee 0",
            7, 0, 0, lambda world: world.passes[0].span[0])
        ahead = ["horizon 500", "satellite A store 0 battery 0 level 0 reserve 0 charge 0 settle 0 light 499 500",
                 "station S antennas 1 turn 60"]
        self.check_range(
            ahead, "recording r by A from 485 to {} length 1 size 0 energy 0 worth 1 rank 3 until 500",
            7, 485, 499, lambda world: world.recordings[0].latest)
        self.check_range(
            ahead, "pass p by A over S from 499 to {} room 0 energy 0 fee 0",
            9, 500, 500, lambda world: world.passes[0].span[1])

    def test_the_first_of_two_numbers_is_looked_at_first(self):
        # The level is beyond the battery; the reserve behind it is no number at all.
        self.assert_world_fault(
            ["horizon 60", "satellite A store 0 battery 5 level 6 reserve x charge 0 settle 0 light"],
            2, 37, "number out of range")


if __name__ == "__main__":
    unittest.main()
