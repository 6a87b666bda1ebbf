"""Point 16: the texts of plans."""

import unittest

from downpass.errors import BadPlan
from downpass.plans import OPEN, empty_plan, format_plan, parse_plan
from downpass.worlds import World
from tests.samples import (
    FaultCase, NO_NAMES, NO_NUMBERS, PLAN_KINDS, PLAN_LINES, column_of, pass_line, recording_line,
    sample_world, satellite_line, station_line, text_of, world_lines,
)


def three_by_three():
    """A world with the recordings r0, r1, r2 and the passes p0, p1, p2."""
    return World.parse(text_of(world_lines(1, 1, 3, 3)))


class Reading(unittest.TestCase):

    def assert_text(self, world, plan, text):
        self.assertEqual(format_plan(world, plan), text)
        self.assertEqual(parse_plan(text, world), plan)

    def test_nothing(self):
        for world in (sample_world(), three_by_three(), World.parse("horizon 1\n")):
            self.assert_text(world, empty_plan(world), "")

    def test_the_sample(self):
        self.assert_text(sample_world(), (((4, 0),), (0,)), "make ice at 4 with p\ntake p on 0\n")

    def test_single_lines(self):
        world = three_by_three()
        nothing = (None, None, None)
        self.assert_text(world, ((None, (2, 1), None), nothing), "make r1 at 2 with p1\n")
        self.assert_text(world, (nothing, (None, None, 1)), "take p2 on 1\n")

    def test_in_order(self):
        self.assert_text(
            three_by_three(), (((0, 2), (1, 2), (2, 0)), (1, 0, 1)),
            "make r0 at 0 with p2\nmake r1 at 1 with p2\nmake r2 at 2 with p0\n"
            "take p0 on 1\ntake p1 on 0\ntake p2 on 1\n")
        self.assert_text(
            three_by_three(), ((None, (1, 1), (1, 0)), (0, None, 0)),
            "make r1 at 1 with p1\nmake r2 at 1 with p0\ntake p0 on 0\ntake p2 on 0\n")

    def test_plans_that_break_the_rules(self):
        # Starts that are no options, a pass of another satellite, antennas that the station has not.
        lines = ["horizon 60", satellite_line("A"), satellite_line("B"), station_line("S"),
                 recording_line("r", "A"), pass_line("p", "A", "S"), pass_line("q", "B", "S")]
        world = World.parse(text_of(lines))
        self.assert_text(world, (((60, 1),), (99, 3)), "make r at 60 with q\ntake p on 99\ntake q on 3\n")
        self.assert_text(world, (((59, 0),), (None, 2)), "make r at 59 with p\ntake q on 2\n")

    def test_the_least_and_the_greatest_numbers(self):
        world = World.parse(text_of(["horizon 500"] + world_lines(1, 1, 1, 1)[1:]))
        self.assert_text(world, (((0, 0),), (0,)), "make r0 at 0 with p0\ntake p0 on 0\n")
        self.assert_text(world, (((500, 0),), (99,)), "make r0 at 500 with p0\ntake p0 on 99\n")

    def test_all_plans_of_a_small_world(self):
        world = World.parse(text_of(world_lines(1, 1, 2, 2)))
        made_entries = [None] + [(start, p) for start in (0, 2) for p in (0, 1)]
        for one in made_entries:
            for other in made_entries:
                for first in (None, 0, 1):
                    for second in (None, 0, 1):
                        plan = ((one, other), (first, second))
                        self.assertEqual(parse_plan(format_plan(world, plan), world), plan)

    def test_ten_of_each(self):
        world = World.parse(text_of(world_lines(3, 3, 10, 10)))
        plan = (tuple((k, 9 - k) for k in range(10)), tuple(range(10)))
        lines = [f"make r{k} at {k} with p{9 - k}" for k in range(10)]
        lines += [f"take p{k} on {k}" for k in range(10)]
        self.assert_text(world, plan, text_of(lines))

    def test_kinds_of_values(self):
        plan = parse_plan("make r1 at 2 with p1\ntake p0 on 1\n", three_by_three())
        self.assertEqual([part.__class__ for part in (plan, *plan, plan[0][1])], [tuple] * 4)

    def test_what_is_no_plan_has_no_text(self):
        world = three_by_three()
        nothing = (None, None, None)
        for pair in [((None, None), nothing), (nothing, (None, None)), (((0, 3), None, None), nothing),
                     (((0, -1), None, None), nothing), ((OPEN, None, None), nothing),
                     (nothing, (None, OPEN, None)), ((OPEN,) * 3, (OPEN,) * 3)]:
            with self.assertRaises(BadPlan):
                format_plan(world, pair)

    def test_starts_and_antennas_somewhat_beyond_are_written(self):
        self.assertEqual(format_plan(sample_world(), (((61, 0),), (100,))),
                         "make ice at 61 with p\ntake p on 100\n")


class Ranges(FaultCase):

    def test_start(self):
        for horizon in (60, 500):
            world = World.parse(text_of([f"horizon {horizon}"] + world_lines(1, 1, 1, 1)[1:]))
            for start in (0, 1, horizon - 1, horizon):
                plan = parse_plan(f"make r0 at {start} with p0\n", world)
                self.assertEqual(plan, (((start, 0),), (None,)))
            for start in (horizon + 1, 9999999):
                self.assert_plan_fault(
                    world, [f"make r0 at {start} with p0"], 1, 12, "number out of range")
            self.assert_plan_fault(world, ["make r0 at -1 with p0"], 1, 12, "number expected")

    def test_antenna(self):
        world = sample_world()
        for antenna in (0, 1, 3, 98, 99):
            self.assertEqual(parse_plan(f"take p on {antenna}\n", world), ((None,), (antenna,)))
        for antenna in (100, 9999999):
            self.assert_plan_fault(world, [f"take p on {antenna}"], 1, 11, "number out of range")
        self.assert_plan_fault(world, ["take p on -1"], 1, 11, "number expected")


class Order(FaultCase):

    def test_make_behind_take(self):
        world = three_by_three()
        for lines in (["take p0 on 0"], ["make r0 at 0 with p0", "take p2 on 0"],
                      ["take p0 on 0", "take p1 on 0"]):
            for line in ("make r2 at 0 with p0", "make r0 at 0 with p0", "make", "make x"):
                self.assert_plan_fault(world, lines + [line], len(lines) + 1, 1, "unexpected word")

    def test_recordings_ascend(self):
        world = three_by_three()
        for one, other in [(0, 0), (1, 1), (2, 2), (1, 0), (2, 0), (2, 1)]:
            lines = [f"make r{one} at 0 with p0", f"make r{other} at 0 with p0"]
            self.assert_plan_fault(world, lines, 2, 6, "line out of order")
            self.assert_plan_fault(world, [lines[0], f"make r{other}"], 2, 6, "line out of order")
            self.assert_plan_fault(world, [lines[0], f"make r{other} at x"], 2, 6, "line out of order")
        lines = ["make r0 at 0 with p0", "make r2 at 0 with p0", "make r1 at 0 with p0"]
        self.assert_plan_fault(world, lines, 3, 6, "line out of order")

    def test_passes_ascend(self):
        world = three_by_three()
        for one, other in [(0, 0), (1, 1), (2, 2), (1, 0), (2, 0), (2, 1)]:
            lines = [f"take p{one} on 0", f"take p{other} on 1"]
            self.assert_plan_fault(world, lines, 2, 6, "line out of order")
            self.assert_plan_fault(world, [lines[0], f"take p{other}"], 2, 6, "line out of order")
        lines = ["take p0 on 0", "take p2 on 0", "take p1 on 0"]
        self.assert_plan_fault(world, lines, 3, 6, "line out of order")

    def test_the_two_sorts_do_not_count_for_each_other(self):
        plan = parse_plan("make r2 at 0 with p2\ntake p0 on 0\n", three_by_three())
        self.assertEqual(plan, ((None, None, (0, 2)), (0, None, None)))

    def test_the_pass_that_sends_may_be_any(self):
        plan = parse_plan("make r0 at 0 with p2\nmake r1 at 0 with p0\n", three_by_three())
        self.assertEqual(plan[0], ((0, 2), (0, 0), None))

    def test_an_unknown_name_is_not_out_of_order(self):
        lines = ["make r2 at 0 with p0", "make r3 at 0 with p0"]
        self.assert_plan_fault(three_by_three(), lines, 2, 6, "unknown name")


class WholeTexts(FaultCase):

    def assert_text_fault(self, text, line, column, reason):
        with self.subTest(text=text):
            self.assert_fault(lambda: parse_plan(text, sample_world()), line, column, reason)

    def test_without_the_last_newline(self):
        self.assert_text_fault("make ice at 4 with p", 1, 21, "newline expected")
        self.assert_text_fault("make ice at 4 with p\ntake p on 0", 2, 12, "newline expected")
        self.assert_text_fault("x\n\ny", 3, 2, "newline expected")
        self.assert_text_fault(" ", 1, 2, "newline expected")

    def test_empty_lines(self):
        self.assert_text_fault("\n", 1, 1, "empty word")
        self.assert_text_fault("make ice at 4 with p\n\ntake p on 0\n", 2, 1, "empty word")
        self.assert_text_fault("make ice at 4 with p\ntake p on 0\n\n", 3, 1, "empty word")

    def test_lines_that_are_none(self):
        for word in ("horizon", "x", "Make", "takes", "pass", "0"):
            self.assert_text_fault(word + " p on 0\n", 1, 1, "unexpected word")
            self.assert_text_fault("take p on 0\n" + word + "\n", 2, 1, "unexpected word")

    def test_only_a_newline_ends_a_line(self):
        self.assert_text_fault("take p on 0\r\n", 1, 11, "number expected")
        self.assert_text_fault("make ice at 4 with p\r\n", 1, 20, "name expected")

    def test_a_world_without_recordings_or_passes(self):
        world = World.parse("horizon 60\n")
        self.assert_plan_fault(world, ["make ice at 4 with p"], 1, 6, "unknown name")
        self.assert_plan_fault(world, ["take p on 0"], 1, 6, "unknown name")


class EachWord(FaultCase):

    def places(self):
        """Each word of the sample plan: its line's number, its line's words, its place, its kind."""
        found = []
        for k, line in enumerate(PLAN_LINES):
            for place, kind in enumerate(PLAN_KINDS[k]):
                found.append((k, line.split(" "), place, kind))
        return found

    def assert_changed(self, k, words, column, reason):
        """The sample plan with these words in one line has this fault there."""
        lines = PLAN_LINES[:k] + [" ".join(words)] + PLAN_LINES[k + 1:]
        self.assert_plan_fault(sample_world(), lines, k + 1, column, reason)

    def assert_replaced(self, k, words, place, other, reason):
        """So it is if this word is replaced."""
        self.assert_changed(
            k, words[:place] + [other] + words[place + 1:], column_of(words, place), reason)

    def test_the_samples_fit(self):
        self.assertEqual([len(line.split(" ")) for line in PLAN_LINES],
                         [len(kinds) for kinds in PLAN_KINDS])
        parse_plan(text_of(PLAN_LINES), sample_world())

    def test_left_out(self):
        for k, words, place, _ in self.places():
            reason = "empty word" if place == 0 else "missing word"
            self.assert_changed(k, words[:place], column_of(words, place), reason)

    def test_empty(self):
        for k, words, place, _ in self.places():
            self.assert_replaced(k, words, place, "", "empty word")
            self.assert_changed(
                k, words[:place] + [""] + words[place:], column_of(words, place), "empty word")
            self.assert_changed(k, words[:place] + ["", ""], column_of(words, place), "empty word")

    def test_fixed_words(self):
        for k, words, place, kind in self.places():
            if kind == "word":
                word = words[place]
                for other in (word[:-1], word + "x", word.upper(), "x", "7", "-", word + "\t"):
                    self.assert_replaced(k, words, place, other, "unexpected word")

    def test_numbers(self):
        for k, words, place, kind in self.places():
            if kind == "number":
                for other in NO_NUMBERS:
                    self.assert_replaced(k, words, place, other, "number expected")

    def test_names(self):
        for k, words, place, kind in self.places():
            if kind == "known":
                for other in NO_NAMES:
                    self.assert_replaced(k, words, place, other, "name expected")
                for other in ("x", "P", "pp", "Ara", "Fell", "ic", "abcdefghijklmno"):
                    self.assert_replaced(k, words, place, other, "unknown name")
        self.assert_replaced(0, PLAN_LINES[0].split(" "), 1, "p", "unknown name")
        self.assert_replaced(0, PLAN_LINES[0].split(" "), 5, "ice", "unknown name")
        self.assert_replaced(1, PLAN_LINES[1].split(" "), 1, "ice", "unknown name")

    def test_a_blank_at_the_end(self):
        for k, line in enumerate(PLAN_LINES):
            self.assert_changed(k, [line, ""], len(line) + 2, "empty word")
            self.assert_changed(k, [line, "", "x"], len(line) + 2, "empty word")

    def test_a_word_too_many(self):
        for k, line in enumerate(PLAN_LINES):
            for word in ("x", "7", "p", "on", "-"):
                self.assert_changed(k, [line, word], len(line) + 2, "unexpected word")

    def test_doubled(self):
        reasons = [
            ["unknown name", "unexpected word", "number expected", "unexpected word", "unknown name",
             "unexpected word"],
            ["unknown name", "unexpected word", "number expected", "unexpected word"],
        ]
        for k, words, place, _ in self.places():
            doubled = words[:place + 1] + words[place:]
            self.assert_changed(k, doubled, column_of(doubled, place + 1), reasons[k][place])

    def test_written_out(self):
        world = sample_world()
        self.assert_plan_fault(world, ["make ice at 4 with"], 1, 20, "missing word")
        self.assert_plan_fault(world, ["make ice at 4 with "], 1, 20, "empty word")
        self.assert_plan_fault(world, ["make ice at 61 with"], 1, 13, "number out of range")
        self.assert_plan_fault(world, ["take"], 1, 6, "missing word")
        self.assert_plan_fault(world, ["take p at 0"], 1, 8, "unexpected word")


if __name__ == "__main__":
    unittest.main()
