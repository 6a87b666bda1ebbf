"""Points 2, 5 to 9, 11, 13 and 14: worlds that are read, and what is asked of them."""

import unittest

from downpass.worlds import Pass, Recording, Satellite, Station, World, light_minutes, options
from tests.samples import (
    FaultCase, WORLD_LINES, pass_line, recording_line, sample_world, satellite_line, station_line,
    text_of, world_lines,
)


class Attributes(unittest.TestCase):

    def test_horizon_and_counts(self):
        world = sample_world()
        self.assertEqual(world.horizon, 60)
        for things, kind in [(world.satellites, Satellite), (world.stations, Station),
                             (world.recordings, Recording), (world.passes, Pass)]:
            self.assertIsInstance(things, tuple)
            self.assertEqual(len(things), 1)
            self.assertIsInstance(things[0], kind)

    def test_satellite(self):
        satellite = sample_world().satellites[0]
        self.assertEqual(satellite.name, "Ara")
        self.assertEqual(satellite.store, 9)
        self.assertEqual(satellite.battery, 50)
        self.assertEqual(satellite.start_level, 40)
        self.assertEqual(satellite.reserve, 5)
        self.assertEqual(satellite.charge, 1)
        self.assertEqual(satellite.settle, 2)
        self.assertEqual(satellite.light, ((0, 20),))

    def test_station(self):
        station = sample_world().stations[0]
        self.assertEqual((station.name, station.antennas, station.turn), ("Fell", 1, 3))

    def test_recording(self):
        recording = sample_world().recordings[0]
        self.assertEqual(recording.name, "ice")
        self.assertEqual(recording.satellite, 0)
        self.assertEqual(recording.earliest, 4)
        self.assertEqual(recording.latest, 5)
        self.assertEqual(recording.length, 6)
        self.assertEqual(recording.size, 7)
        self.assertEqual(recording.energy, 8)
        self.assertEqual(recording.worth, 9)
        self.assertEqual(recording.rank, 1)
        self.assertEqual(recording.deadline, 40)

    def test_pass(self):
        chance = sample_world().passes[0]
        self.assertEqual(chance.name, "p")
        self.assertEqual((chance.satellite, chance.station), (0, 0))
        self.assertEqual(chance.span, (11, 20))
        self.assertIsInstance(chance.span, tuple)
        self.assertEqual((chance.room, chance.energy, chance.fee), (10, 3, 1))

    def test_numbers_are_numbers(self):
        world = sample_world()
        listed = [
            (world, "horizon"),
            (world.satellites[0], "store battery start_level reserve charge settle"),
            (world.stations[0], "antennas turn"),
            (world.recordings[0], "satellite earliest latest length size energy worth rank deadline"),
            (world.passes[0], "satellite station room energy fee"),
        ]
        for thing, names in listed:
            for name in names.split(" "):
                self.assertIs(getattr(thing, name).__class__, int, name)
        for minute in (*world.satellites[0].light[0], *world.passes[0].span):
            self.assertIs(minute.__class__, int)

    def test_things_are_known_by_their_places(self):
        lines = ["horizon 60", satellite_line("A"), satellite_line("B"), satellite_line("C"),
                 station_line("S"), station_line("T"), station_line("U"),
                 recording_line("r", "C"), recording_line("s", "A"), recording_line("t", "B"),
                 pass_line("p", "B", "U"), pass_line("q", "C", "S"), pass_line("o", "A", "T")]
        world = World.parse(text_of(lines))
        self.assertEqual([one.name for one in world.satellites], ["A", "B", "C"])
        self.assertEqual([one.name for one in world.stations], ["S", "T", "U"])
        self.assertEqual([(one.name, one.satellite) for one in world.recordings],
                         [("r", 2), ("s", 0), ("t", 1)])
        self.assertEqual([(one.name, one.satellite, one.station) for one in world.passes],
                         [("p", 1, 2), ("q", 2, 0), ("o", 0, 1)])

    def test_class_values(self):
        self.assertEqual(World.MOST_HORIZON, 500)
        self.assertEqual(World.MOST_SATELLITES, 3)
        self.assertEqual(World.MOST_STATIONS, 3)
        self.assertEqual(World.MOST_RECORDINGS, 10)
        self.assertEqual(World.MOST_PASSES, 10)
        self.assertEqual(World.MOST_SHIFT, 20)


class Names(unittest.TestCase):

    def test_names_of_every_length(self):
        for length in range(1, 16):
            name = "aZ3zA9bY0cX1dW2"[:length]
            lines = ["horizon 60", satellite_line(name), station_line(name),
                     recording_line(name, name), pass_line(name, name, name)]
            world = World.parse(text_of(lines))
            for thing in (world.satellites[0], world.stations[0], world.recordings[0], world.passes[0]):
                self.assertEqual(thing.name, name)

    def test_every_letter_and_digit(self):
        letters = "abcdefghijklmnopqrstuvwxyzABCDEFGHIJKLMNOPQRSTUVWXYZ"
        for letter in letters:
            self.assertEqual(self.name_read(letter), letter)
        for letter in letters + "0123456789":
            self.assertEqual(self.name_read("q" + letter), "q" + letter)

    def test_words_of_the_lines_may_be_names(self):
        for name in ("horizon", "satellite", "station", "store", "by", "light", "pass"):
            self.assertEqual(self.name_read(name), name)

    def test_names_differ_by_their_letters(self):
        lines = ["horizon 60", station_line("Fell"), station_line("fell"), station_line("Fell0")]
        names = [one.name for one in World.parse(text_of(lines)).stations]
        self.assertEqual(names, ["Fell", "fell", "Fell0"])

    def name_read(self, name):
        """The name of a station of this name."""
        return World.parse(text_of(["horizon 60", station_line(name)])).stations[0].name


class Light(unittest.TestCase):

    def light_read(self, light):
        """The spans of light of a satellite with these words behind `light`."""
        text = text_of(["horizon 60", satellite_line("Ara", light)])
        return World.parse(text).satellites[0].light

    def test_no_span(self):
        self.assertEqual(self.light_read(""), ())

    def test_several_spans(self):
        self.assertEqual(self.light_read(" 0 60"), ((0, 60),))
        self.assertEqual(self.light_read(" 3 4 9 10"), ((3, 4), (9, 10)))
        self.assertEqual(self.light_read(" 1 5 7 20 21 59"), ((1, 5), (7, 20), (21, 59)))

    def test_spans_that_touch(self):
        self.assertEqual(self.light_read(" 0 5 5 6 6 60"), ((0, 5), (5, 6), (6, 60)))

    def test_as_many_spans_as_there_are_minutes(self):
        light = "".join([f" {minute} {minute + 1}" for minute in range(60)])
        self.assertEqual(self.light_read(light), tuple((minute, minute + 1) for minute in range(60)))

    def test_they_are_tuples(self):
        light = self.light_read(" 1 5 7 20")
        self.assertIsInstance(light, tuple)
        for span in light:
            self.assertIsInstance(span, tuple)


class LightMinutes(unittest.TestCase):

    def setUp(self):
        text = text_of(["horizon 60", satellite_line("Ara", " 0 20 20 25 50 60"), satellite_line("Bex")])
        self.ara, self.bex = World.parse(text).satellites

    def test_within_the_horizon(self):
        self.assertEqual(light_minutes(self.ara, 0, 60), 35)
        self.assertEqual(light_minutes(self.ara, 0, 1), 1)
        self.assertEqual(light_minutes(self.ara, 24, 25), 1)
        self.assertEqual(light_minutes(self.ara, 25, 50), 0)
        self.assertEqual(light_minutes(self.ara, 19, 51), 7)

    def test_beyond_the_horizon(self):
        self.assertEqual(light_minutes(self.ara, -10, 1000), 35)
        self.assertEqual(light_minutes(self.ara, 59, 61), 1)
        self.assertEqual(light_minutes(self.ara, 60, 90), 0)
        self.assertEqual(light_minutes(self.ara, -5, 0), 0)

    def test_empty_ranges(self):
        self.assertEqual(light_minutes(self.ara, 7, 7), 0)
        self.assertEqual(light_minutes(self.ara, 9, 7), 0)
        self.assertEqual(light_minutes(self.ara, 60, 0), 0)

    def test_no_light(self):
        self.assertEqual(light_minutes(self.bex, 0, 60), 0)

    def test_against_the_minutes_counted(self):
        minutes = list(range(0, 25)) + list(range(50, 60))
        for first in range(-3, 64):
            for end in range(-3, 64):
                count = len([minute for minute in minutes if first <= minute < end])
                self.assertEqual(light_minutes(self.ara, first, end), count)


class Counts(FaultCase):

    def test_a_horizon_alone(self):
        world = World.parse("horizon 1\n")
        self.assertEqual(world.horizon, 1)
        for things in (world.satellites, world.stations, world.recordings, world.passes):
            self.assertEqual(things, ())
            self.assertIsInstance(things, tuple)

    def test_every_number_of_each_sort(self):
        for counts in ([(k, 0, 0, 0) for k in range(4)] + [(0, k, 0, 0) for k in range(4)]
                       + [(2, 0, k, 0) for k in range(11)] + [(3, 2, 0, k) for k in range(11)]
                       + [(1, 1, 10, 10), (3, 3, 10, 10)]):
            world = World.parse(text_of(world_lines(*counts)))
            found = (len(world.satellites), len(world.stations),
                     len(world.recordings), len(world.passes))
            self.assertEqual(found, counts)

    def test_the_fullest_world_and_one_line_more(self):
        lines = world_lines(3, 3, 10, 10)
        World.parse(text_of(lines))
        # Each line more, and its place: behind the last one of its sort.
        for more, at in [(satellite_line("more"), 4), (station_line("more"), 7),
                         (recording_line("more", "sat0"), 17), (pass_line("more", "sat0", "st0"), 27)]:
            self.assert_world_fault(lines[:at] + [more] + lines[at:], at + 1, 1, "too many lines")

    def test_too_many_lines_ahead_of_what_is_wrong_in_the_line(self):
        lines = world_lines(3, 3, 10, 10)
        for word, at in [("satellite", 4), ("station", 7), ("recording", 17), ("pass", 27)]:
            self.assert_world_fault(lines[:at] + [word] + lines[at:], at + 1, 1, "too many lines")
            self.assert_world_fault(lines[:at] + [word + "  4x"], at + 1, 1, "too many lines")

    def test_a_full_sort_does_not_count_for_another(self):
        self.assertEqual(len(World.parse(text_of(world_lines(3, 0, 10, 0))).recordings), 10)
        self.assertEqual(len(World.parse(text_of(world_lines(1, 3, 0, 10))).passes), 10)


class NormalText(unittest.TestCase):

    def test_it_is_the_text_that_was_read(self):
        for lines in (WORLD_LINES, world_lines(), world_lines(3, 3, 10, 10), world_lines(1, 0, 2, 0)):
            text = text_of(lines)
            world = World.parse(text)
            self.assertEqual(world.text, text)
            self.assertTrue(World.parse(world.text) == world)
            self.assertEqual(World.parse(world.text).text, text)

    def test_equal_exactly_if_the_texts_are(self):
        texts = ["horizon 60\n", "horizon 61\n", text_of(WORLD_LINES), text_of(WORLD_LINES[:-1])]
        for k in range(1, len(WORLD_LINES)):
            words = WORLD_LINES[k].split(" ")
            for place, word in enumerate(words):
                if word.isdigit() and word != "0":
                    changed = words[:place] + [str(int(word) - 1)] + words[place + 1:]
                    texts.append(text_of(WORLD_LINES[:k] + [" ".join(changed)] + WORLD_LINES[k + 1:]))
        readable = [text for text in texts if self.can_be_read(text)]
        self.assertGreater(len(readable), 15)
        for text in readable:
            for other in readable:
                self.assertIs(World.parse(text) == World.parse(other), text == other)
                self.assertIs(World.parse(text) != World.parse(other), text != other)

    def can_be_read(self, text):
        """True if the text is that of a world."""
        try:
            World.parse(text)
        except ValueError:
            return False
        return True

    def test_the_order_of_things_counts(self):
        one = text_of(["horizon 9", station_line("A"), station_line("B")])
        other = text_of(["horizon 9", station_line("B"), station_line("A")])
        self.assertFalse(World.parse(one) == World.parse(other))

    def test_nothing_else_is_equal_to_a_world(self):
        world = World.parse("horizon 60\n")
        for other in (None, "horizon 60\n", 60, (), world.satellites):
            self.assertFalse(world == other)
            self.assertTrue(world != other)


class Options(unittest.TestCase):

    def options_of(self, recording, passes, horizon=60):
        """The options of one recording with these words behind its satellite."""
        lines = [f"horizon {horizon}", satellite_line("Ara"), satellite_line("Bex"), station_line(),
                 f"recording ice by Ara {recording}"]
        for k, (satellite, first, end) in enumerate(passes):
            lines.append(f"pass p{k} by {satellite} over Fell from {first} to {end} room 0 energy 0 fee 0")
        return options(World.parse(text_of(lines)), 0)

    def test_the_example_of_the_interface(self):
        self.assertEqual(options(sample_world(), 0), ((4, 0), (5, 0)))

    def test_the_recording_ends_at_the_first_minute_of_the_pass_or_before(self):
        words = "from 4 to 4 length 6 size 0 energy 0 worth 1 rank 1 until 60"
        for first, found in [(9, ()), (10, ((4, 0),)), (11, ((4, 0),)), (59, ((4, 0),))]:
            self.assertEqual(self.options_of(words, [("Ara", first, 60)]), found)

    def test_the_pass_ends_at_the_deadline_or_before(self):
        words = "from 4 to 4 length 6 size 0 energy 0 worth 1 rank 1 until 40"
        for end, found in [(12, ((4, 0),)), (39, ((4, 0),)), (40, ((4, 0),)), (41, ()), (60, ())]:
            self.assertEqual(self.options_of(words, [("Ara", 11, end)]), found)

    def test_only_passes_of_the_same_satellite(self):
        words = "from 4 to 5 length 1 size 0 energy 0 worth 1 rank 1 until 60"
        passes = [("Bex", 11, 20), ("Ara", 11, 20), ("Bex", 30, 40), ("Ara", 30, 40)]
        self.assertEqual(self.options_of(words, passes), ((4, 1), (4, 3), (5, 1), (5, 3)))

    def test_by_starts_and_then_by_passes(self):
        words = "from 4 to 8 length 2 size 0 energy 0 worth 1 rank 1 until 50"
        passes = [("Ara", 45, 50), ("Ara", 8, 20), ("Ara", 10, 51), ("Ara", 9, 10)]
        self.assertEqual(self.options_of(words, passes),
                         ((4, 0), (4, 1), (4, 3), (5, 0), (5, 1), (5, 3), (6, 0), (6, 1), (6, 3),
                          (7, 0), (7, 3), (8, 0)))

    def test_none(self):
        words = "from 4 to 8 length 2 size 0 energy 0 worth 1 rank 1 until 0"
        self.assertEqual(self.options_of(words, []), ())
        self.assertEqual(self.options_of(words, [("Ara", 20, 30)]), ())
        self.assertIsInstance(self.options_of(words, []), tuple)

    def test_starts_up_to_the_latest_one_and_the_last_minute(self):
        words = "from 0 to 20 length 1 size 0 energy 0 worth 1 rank 1 until 60"
        self.assertEqual(self.options_of(words, [("Ara", 21, 60)]),
                         tuple((start, 0) for start in range(21)))
        words = "from 57 to 58 length 1 size 0 energy 0 worth 1 rank 1 until 60"
        self.assertEqual(self.options_of(words, [("Ara", 59, 60)]), ((57, 0), (58, 0)))

    def test_room_and_taking_do_not_count(self):
        lines = ["horizon 60", satellite_line(), station_line(),
                 "recording ice by Ara from 4 to 4 length 6 size 1000000 energy 9 worth 9 rank 1 until 40",
                 pass_line()]
        self.assertEqual(options(World.parse(text_of(lines)), 0), ((4, 0),))

    def test_of_the_recording_that_is_asked_for(self):
        lines = ["horizon 60", satellite_line("Ara"), satellite_line("Bex"), station_line(),
                 recording_line("r", "Ara"), recording_line("s", "Bex"),
                 pass_line("p", "Bex"), pass_line("q", "Ara")]
        world = World.parse(text_of(lines))
        self.assertEqual(options(world, 0), ((0, 1), (1, 1), (2, 1)))
        self.assertEqual(options(world, 1), ((0, 0), (1, 0), (2, 0)))


class AskedAgain(unittest.TestCase):

    def test_another_world_in_between_changes_nothing(self):
        text = text_of(WORLD_LINES)
        world = World.parse(text)
        before = (options(world, 0), light_minutes(world.satellites[0], 3, 70), world.satellites[0].light)
        other = World.parse(text_of(world_lines(3, 3, 10, 10)))
        self.assertEqual(len(options(other, 9)), 12)
        with self.assertRaises(ValueError):
            World.parse("horizon 60\nsatellite Ara\n")
        after = (options(world, 0), light_minutes(world.satellites[0], 3, 70), world.satellites[0].light)
        self.assertEqual(before, after)
        self.assertEqual(world.text, text)
        self.assertEqual(World.parse(text), world)


if __name__ == "__main__":
    unittest.main()
