"""Points 10 to 12: the first fault of the text of a world, with its line, column and reason."""

import unittest

from downpass.worlds import World
from tests.samples import (
    FaultCase, NO_NAMES, NO_NUMBERS, WORLD_KINDS, WORLD_LINES, column_of, pass_line, recording_line,
    satellite_line, station_line, text_of,
)


def with_line(k, words):
    """The lines of the sample world with other words in one line."""
    return WORLD_LINES[:k] + [" ".join(words)] + WORLD_LINES[k + 1:]


def places():
    """Each word of the sample world: its line's number, its line's words, its place, its kind."""
    found = []
    for k, line in enumerate(WORLD_LINES):
        words = line.split(" ")
        for place, kind in enumerate(WORLD_KINDS[k]):
            found.append((k, words, place, kind))
    return found


class WholeTexts(FaultCase):

    def test_the_samples_fit(self):
        self.assertEqual([len(line.split(" ")) for line in WORLD_LINES],
                         [len(kinds) for kinds in WORLD_KINDS])
        World.parse(text_of(WORLD_LINES))

    def assert_text_fault(self, text, line, column, reason):
        with self.subTest(text=text):
            self.assert_fault(lambda: World.parse(text), line, column, reason)

    def test_the_example_of_the_interface(self):
        self.assert_text_fault("horizon 501\n", 1, 9, "number out of range")

    def test_the_empty_text(self):
        self.assert_text_fault("", 1, 1, "missing line")

    def test_empty_lines(self):
        self.assert_text_fault("\n", 1, 1, "empty word")
        self.assert_text_fault("\n\n", 1, 1, "empty word")
        self.assert_text_fault("horizon 60\n\n", 2, 1, "empty word")
        self.assert_text_fault("\nhorizon 60\n", 1, 1, "empty word")
        self.assert_text_fault(text_of(WORLD_LINES) + "\n", 6, 1, "empty word")
        for k in range(len(WORLD_LINES) + 1):
            self.assert_world_fault(WORLD_LINES[:k] + [""] + WORLD_LINES[k:], k + 1, 1, "empty word")

    def test_without_the_last_newline(self):
        self.assert_text_fault("horizon 60", 1, 11, "newline expected")
        self.assert_text_fault("h", 1, 2, "newline expected")
        self.assert_text_fault(" ", 1, 2, "newline expected")
        self.assert_text_fault("\n ", 2, 2, "newline expected")
        self.assert_text_fault("horizon 60\nstation", 2, 8, "newline expected")
        for k, line in enumerate(WORLD_LINES):
            text = text_of(WORLD_LINES[:k]) + line
            self.assert_text_fault(text, k + 1, len(line) + 1, "newline expected")

    def test_the_newline_comes_ahead_of_all_others(self):
        self.assert_text_fault("x\ny\nhorizon 999", 3, 12, "newline expected")
        self.assert_text_fault("\n\nx", 3, 2, "newline expected")
        self.assert_text_fault("horizon 0 ", 1, 11, "newline expected")

    def test_only_a_newline_ends_a_line(self):
        self.assert_text_fault("horizon 60\r\n", 1, 9, "number expected")
        self.assert_text_fault("horizon\r60\n", 1, 1, "unexpected word")
        for end in ("\r", "\x0b", "\x0c", "\x1c", "\x85", "\u2028"):
            self.assert_text_fault("horizon 60" + end, 1, 12, "newline expected")
            self.assert_text_fault("horizon 60" + end + "station\n", 1, 9, "number expected")

    def test_only_a_space_separates_words(self):
        self.assert_text_fault("horizon\t60\n", 1, 1, "unexpected word")
        self.assert_text_fault("horizon\u00a060\n", 1, 1, "unexpected word")
        self.assert_text_fault("horizon \t60\n", 1, 9, "number expected")


class FirstLine(FaultCase):

    def test_the_horizon_is_due(self):
        for word in ("satellite", "station", "recording", "pass", "x", "Horizon", "horizons", "60"):
            self.assert_world_fault([word + " 60"], 1, 1, "unexpected word")
        for line in WORLD_LINES[1:]:
            self.assert_world_fault([line] + WORLD_LINES, 1, 1, "unexpected word")

    def test_its_number_is_due(self):
        self.assert_world_fault(["horizon"], 1, 9, "missing word")
        self.assert_world_fault(["horizon "], 1, 9, "empty word")
        self.assert_world_fault(["horizon x"], 1, 9, "number expected")
        self.assert_world_fault(["horizon 0"], 1, 9, "number out of range")
        self.assert_world_fault(["horizon 01"], 1, 9, "number expected")

    def test_behind_its_number(self):
        self.assert_world_fault(["horizon 60 "], 1, 12, "empty word")
        self.assert_world_fault(["horizon 60  "], 1, 12, "empty word")
        self.assert_world_fault(["horizon 60  x"], 1, 12, "empty word")
        self.assert_world_fault(["horizon 60 x"], 1, 12, "unexpected word")
        self.assert_world_fault(["horizon 60 60"], 1, 12, "unexpected word")


class Order(FaultCase):

    def test_a_second_line_horizon(self):
        for k in range(1, len(WORLD_LINES) + 1):
            for line in ("horizon 60", "horizon", "horizon 0 x"):
                lines = WORLD_LINES[:k] + [line] + WORLD_LINES[k:]
                self.assert_world_fault(lines, k + 1, 1, "unexpected word")

    def test_lines_of_no_sort(self):
        for k in range(1, len(WORLD_LINES) + 1):
            for word in ("x", "Satellite", "stations", "passe", "0", "take", "make", "satellite\t"):
                lines = WORLD_LINES[:k] + [word + " Bex"] + WORLD_LINES[k:]
                self.assert_world_fault(lines, k + 1, 1, "unexpected word")

    def test_lines_of_each_sort_behind_those_of_later_sorts(self):
        lines = ["horizon 60", satellite_line("A"), station_line("S"),
                 recording_line("r", "A"), pass_line("p", "A", "S")]
        more = [None, satellite_line("B"), station_line("T"),
                recording_line("s", "A"), pass_line("q", "A", "S")]
        for later in range(2, 5):
            for sort in range(1, later):
                for line in (more[sort], more[sort].split(" ")[0], lines[sort]):
                    self.assert_world_fault(
                        lines[:later + 1] + [line], later + 2, 1, "line out of order")

    def test_a_sort_may_be_left_out(self):
        self.assertEqual(len(World.parse(text_of(["horizon 60", station_line()])).stations), 1)
        lines = ["horizon 60", satellite_line(), recording_line()]
        self.assertEqual(len(World.parse(text_of(lines)).recordings), 1)
        self.assert_world_fault(lines + [station_line()], 4, 1, "line out of order")
        self.assert_world_fault(["horizon 60", station_line(), satellite_line()], 3, 1, "line out of order")

    def test_out_of_order_ahead_of_too_many(self):
        lines = ["horizon 60"] + [satellite_line(name) for name in "ABC"] + [station_line("S")]
        self.assert_world_fault(lines + [satellite_line("D")], 6, 1, "line out of order")
        lines = lines + [station_line("T"), station_line("U")]
        self.assert_world_fault(lines + [satellite_line("D")], 8, 1, "line out of order")
        lines = lines + [recording_line(f"r{k}", "A") for k in range(10)]
        self.assert_world_fault(lines + [station_line("V")], 18, 1, "line out of order")
        lines = lines + [pass_line("p", "A", "S")]
        self.assert_world_fault(lines + [recording_line("s", "A")], 19, 1, "line out of order")


class EachWord(FaultCase):

    def test_left_out(self):
        for k, words, place, _ in places():
            line = " ".join(words[:place])
            if place == 0:
                self.assert_world_fault(with_line(k, []), k + 1, 1, "empty word")
            elif words[place - 1] != "light":
                self.assert_world_fault(with_line(k, words[:place]), k + 1, len(line) + 2, "missing word")

    def test_light_may_end_behind_each_span(self):
        line = "satellite Ara store 9 battery 50 level 40 reserve 5 charge 1 settle 2 light"
        self.assert_world_fault(["horizon 60", line + " 3"], 2, len(line) + 4, "missing word")
        self.assert_world_fault(["horizon 60", line + " 3 4 5"], 2, len(line) + 8, "missing word")
        self.assertEqual(World.parse(text_of(["horizon 60", line])).satellites[0].light, ())

    def test_empty(self):
        for k, words, place, _ in places():
            column = column_of(words, place)
            self.assert_world_fault(
                with_line(k, words[:place] + [""] + words[place + 1:]), k + 1, column, "empty word")
            self.assert_world_fault(
                with_line(k, words[:place] + [""] + words[place:]), k + 1, column, "empty word")
            self.assert_world_fault(
                with_line(k, words[:place] + ["", ""]), k + 1, column, "empty word")

    def test_fixed_words(self):
        for k, words, place, kind in places():
            if kind == "word":
                word = words[place]
                for other in (word[:-1] or "x", word + "x", word.upper(), "x", "7", "-", word + "\t"):
                    self.assert_world_fault(
                        with_line(k, words[:place] + [other] + words[place + 1:]),
                        k + 1, column_of(words, place), "unexpected word")

    def test_each_fixed_word_has_its_place(self):
        # At each place of a fixed word but a line's first one, all other fixed words are unexpected.
        fixed = sorted({words[place] for _, words, place, kind in places() if kind == "word"})
        for k, words, place, kind in places():
            if kind == "word" and place > 0:
                for other in fixed:
                    if other != words[place]:
                        self.assert_world_fault(
                            with_line(k, words[:place] + [other] + words[place + 1:]),
                            k + 1, column_of(words, place), "unexpected word")

    def test_numbers(self):
        for k, words, place, kind in places():
            if kind == "number":
                for other in NO_NUMBERS:
                    self.assert_world_fault(
                        with_line(k, words[:place] + [other] + words[place + 1:]),
                        k + 1, column_of(words, place), "number expected")

    def test_names(self):
        for k, words, place, kind in places():
            if kind in ("new", "known"):
                for other in NO_NAMES:
                    self.assert_world_fault(
                        with_line(k, words[:place] + [other] + words[place + 1:]),
                        k + 1, column_of(words, place), "name expected")

    def test_unknown_names(self):
        for k, words, place, kind in places():
            if kind == "known":
                for other in ("x", "ara", "Arax", "Ar", "fell", "ice", "p", "abcdefghijklmno"):
                    self.assert_world_fault(
                        with_line(k, words[:place] + [other] + words[place + 1:]),
                        k + 1, column_of(words, place), "unknown name")

    def test_names_of_another_sort_are_unknown(self):
        words = WORLD_LINES[4].split(" ")
        self.assert_world_fault(with_line(4, words[:3] + ["Fell"] + words[4:]), 5, 11, "unknown name")
        self.assert_world_fault(with_line(4, words[:5] + ["Ara"] + words[6:]), 5, 20, "unknown name")
        words = WORLD_LINES[3].split(" ")
        self.assert_world_fault(with_line(3, words[:3] + ["ice"] + words[4:]), 4, 18, "unknown name")

    def test_names_used_twice(self):
        for k, words, place, kind in places():
            if kind == "new":
                lines = WORLD_LINES[:k + 1] + [" ".join(words)] + WORLD_LINES[k + 1:]
                self.assert_world_fault(lines, k + 2, column_of(words, 1), "name already used")
                lines = WORLD_LINES[:k + 1] + [" ".join(words[:2])]
                self.assert_world_fault(lines, k + 2, column_of(words, 1), "name already used")

    def test_the_first_of_several_names_used_twice(self):
        lines = ["horizon 60", station_line("A"), station_line("B"), station_line("A")]
        self.assert_world_fault(lines, 4, 9, "name already used")

    def test_a_blank_at_the_end(self):
        for k, line in enumerate(WORLD_LINES):
            self.assert_world_fault(with_line(k, [line, ""]), k + 1, len(line) + 2, "empty word")

    def test_a_word_too_many(self):
        for k, line in enumerate(WORLD_LINES):
            for word in ("x", "7", "light", "-"):
                reason = "number expected" if k == 1 else "unexpected word"
                if k != 1 or word != "7":
                    self.assert_world_fault(with_line(k, [line, word]), k + 1, len(line) + 2, reason)

    def test_a_number_too_many_behind_the_spans_of_light(self):
        line = WORLD_LINES[1]
        self.assert_world_fault(with_line(1, [line, "7"]), 2, len(line) + 2, "number out of range")
        self.assert_world_fault(with_line(1, [line, "20"]), 2, len(line) + 5, "missing word")
        self.assert_world_fault(with_line(1, [line, "20", "x"]), 2, len(line) + 5, "number expected")
        self.assert_world_fault(with_line(1, [line, "20", ""]), 2, len(line) + 5, "empty word")
        self.assert_world_fault(with_line(1, [line, "20", "30", "x"]), 2, len(line) + 8, "number expected")

    def test_doubled(self):
        for k, words, place, kind in places():
            doubled = words[:place + 1] + words[place:]
            at, reason = place + 1, "unexpected word"
            if kind == "word":
                after = WORLD_KINDS[k][place + 1]
                if after == "number":
                    reason = "number expected"
                elif after == "known":
                    reason = "unknown name"
                else:
                    # The doubled word is read as a name; then the name stands where a fixed word is due.
                    at = place + 2
            elif words[:place + 1][-2:] == ["light", "0"]:
                reason = "number out of range"
            elif words[:place + 1][-3:] == ["light", "0", "20"]:
                at, reason = place + 2, "missing word"
            self.assert_world_fault(with_line(k, doubled), k + 1, column_of(doubled, at), reason)


class FirstFault(FaultCase):

    def test_of_two_faults_the_first_one(self):
        for k, words, place, kind in places():
            if kind == "number":
                lines = with_line(k, words[:place] + ["x", "", "y"])
                lines[-1] = lines[-1] if k == 4 else "pass p by Nobody"
                self.assert_world_fault(lines, k + 1, column_of(words, place), "number expected")

    def test_written_out(self):
        lines = ["horizon 60", satellite_line("Ara"), "station Fell antennas 4 turn x"]
        self.assert_world_fault(lines, 3, 23, "number out of range")
        lines = ["horizon 60", "satellite 9 store"]
        self.assert_world_fault(lines, 2, 11, "name expected")
        lines = ["horizon 60", "satellite"]
        self.assert_world_fault(lines, 2, 11, "missing word")
        lines = ["horizon 60", "satellite "]
        self.assert_world_fault(lines, 2, 11, "empty word")
        lines = ["horizon 60", " satellite Ara"]
        self.assert_world_fault(lines, 2, 1, "empty word")
        lines = ["horizon 60", "satellite Ara store 9 battery 50 level 51 reserve"]
        self.assert_world_fault(lines, 2, 40, "number out of range")


if __name__ == "__main__":
    unittest.main()
