"""Texts of worlds and of plans for the tests, and how their faults are looked at."""

import unittest

from downpass.errors import TextFault
from downpass.plans import parse_plan
from downpass.worlds import World

# Each sort of line with what its words are: a fixed word ("word"), a new name ("new"),
# a known name ("known"), a number ("number").
WORLD_LINES = [
    "horizon 60",
    "satellite Ara store 9 battery 50 level 40 reserve 5 charge 1 settle 2 light 0 20",
    "station Fell antennas 1 turn 3",
    "recording ice by Ara from 4 to 5 length 6 size 7 energy 8 worth 9 rank 1 until 40",
    "pass p by Ara over Fell from 11 to 20 room 10 energy 3 fee 1",
]
WORLD_KINDS = [
    ["word", "number"],
    ["word", "new"] + ["word", "number"] * 6 + ["word", "number", "number"],
    ["word", "new"] + ["word", "number"] * 2,
    ["word", "new", "word", "known"] + ["word", "number"] * 8,
    ["word", "new", "word", "known", "word", "known"] + ["word", "number"] * 5,
]
PLAN_LINES = ["make ice at 4 with p", "take p on 0"]
PLAN_KINDS = [
    ["word", "known", "word", "number", "word", "known"],
    ["word", "known", "word", "number"],
]

NO_NUMBERS = [
    "-1", "+1", "007", "00", "12345678", "00000000", "4x", "x4", "1.0", "1_0", "0x1", "one",
    "4\t", "4\r", "\x0c", "\u0664", "\u00b2", "\uff14",
]
NO_NAMES = [
    "abcdefghijklmnop", "4x", "4", "_a", "a_b", "a-b", "a.b", "ab-", "-", "a\t", "a\r", "p\x0b",
    "\u00e9", "a\u00e9", "a\u0664", "\u03b1", "a\u00b2",
]


def text_of(lines):
    """The text with these lines."""
    return "".join([line + "\n" for line in lines])


def sample_world():
    """The world of the sample lines."""
    return World.parse(text_of(WORLD_LINES))


def satellite_line(name="Ara", light=""):
    """A line of a satellite with nothing in it."""
    return f"satellite {name} store 0 battery 0 level 0 reserve 0 charge 0 settle 0 light{light}"


def station_line(name="Fell"):
    """A line of a station."""
    return f"station {name} antennas 2 turn 0"


def recording_line(name="ice", by="Ara"):
    """A line of a recording."""
    return f"recording {name} by {by} from 0 to 2 length 1 size 0 energy 0 worth 1 rank 1 until 60"


def pass_line(name="p", by="Ara", over="Fell"):
    """A line of a pass."""
    return f"pass {name} by {by} over {over} from 11 to 20 room 0 energy 0 fee 0"


def world_lines(satellites=0, stations=0, recordings=0, passes=0):
    """The lines of a world with so many things of each sort."""
    lines = ["horizon 60"]
    lines += [satellite_line(f"sat{k}") for k in range(satellites)]
    lines += [station_line(f"st{k}") for k in range(stations)]
    lines += [recording_line(f"r{k}", f"sat{k % satellites}") for k in range(recordings)]
    lines += [pass_line(f"p{k}", f"sat{k % satellites}", f"st{k % stations}") for k in range(passes)]
    return lines


def column_of(words, k):
    """The column of the word with this number, or of the place behind the last word."""
    return sum([len(word) + 1 for word in words[:k]]) + 1


class FaultCase(unittest.TestCase):
    """A test case that looks at the faults of texts."""

    def assert_fault(self, call, line, column, reason):
        """The call raises TextFault with this line, column and reason."""
        with self.assertRaises(TextFault) as caught:
            call()
        fault = caught.exception
        self.assertEqual((fault.line, fault.column, fault.reason), (line, column, reason))

    def assert_world_fault(self, lines, line, column, reason):
        """The world with these lines has this fault first."""
        with self.subTest(lines=lines):
            self.assert_fault(lambda: World.parse(text_of(lines)), line, column, reason)

    def assert_plan_fault(self, world, lines, line, column, reason):
        """The plan with these lines has this fault first."""
        with self.subTest(lines=lines):
            self.assert_fault(lambda: parse_plan(text_of(lines), world), line, column, reason)
