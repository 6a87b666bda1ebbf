"""Point 4: spans."""

import unittest

from downpass.spans import has_minute, lengthened, meet, minutes_within


def minutes_of(span):
    """The minutes of a span, as the document names them."""
    return set(range(span[0], span[1]))


def all_spans(least, most):
    """All spans from the least minute to the most one."""
    return [(first, end) for first in range(least, most) for end in range(first + 1, most + 1)]


class Meet(unittest.TestCase):

    def test_the_examples_of_the_interface(self):
        self.assertIs(meet((3, 5), (5, 9)), False)
        self.assertIs(meet((3, 6), (5, 9)), True)

    def test_against_the_minutes_in_common(self):
        for one in all_spans(-2, 4):
            for other in all_spans(-2, 4):
                common = minutes_of(one) & minutes_of(other)
                self.assertIs(meet(one, other), common != set(), (one, other))


class Lengthened(unittest.TestCase):

    def test_the_end_is_later(self):
        self.assertEqual(lengthened((3, 5), 0), (3, 5))
        self.assertEqual(lengthened((3, 5), 1), (3, 6))
        self.assertEqual(lengthened((-7, 5), 60), (-7, 65))

    def test_it_is_a_tuple_and_the_span_stays(self):
        span = (3, 5)
        self.assertIsInstance(lengthened(span, 2), tuple)
        self.assertEqual(span, (3, 5))


class HasMinute(unittest.TestCase):

    def test_first_and_last_minute(self):
        self.assertIs(has_minute((3, 5), 2), False)
        self.assertIs(has_minute((3, 5), 3), True)
        self.assertIs(has_minute((3, 5), 4), True)
        self.assertIs(has_minute((3, 5), 5), False)

    def test_below_zero(self):
        for span in all_spans(-3, 3):
            for minute in range(-5, 6):
                self.assertIs(has_minute(span, minute), minute in minutes_of(span))


class MinutesWithin(unittest.TestCase):

    def test_no_spans(self):
        self.assertEqual(minutes_within((), 0, 100), 0)
        self.assertEqual(minutes_within([], 0, 100), 0)

    def test_against_the_minutes_counted(self):
        for spans in [((0, 4),), ((-3, 1), (2, 5)), ((-4, -2), (-2, 1), (1, 2)), ((2, 3), (5, 9))]:
            minutes = set()
            for span in spans:
                minutes |= minutes_of(span)
            for first in range(-6, 11):
                for end in range(-6, 11):
                    count = len([m for m in range(first, end) if m in minutes])
                    self.assertEqual(minutes_within(spans, first, end), count, (spans, first, end))

    def test_ranges_that_are_empty(self):
        self.assertEqual(minutes_within(((0, 10),), 5, 5), 0)
        self.assertEqual(minutes_within(((0, 10),), 6, 5), 0)
        self.assertEqual(minutes_within(((0, 3), (7, 10)), 9, 1), 0)

    def test_a_list_of_spans_stays_as_it_is(self):
        spans = [(5, 9), (-1, 2)]
        self.assertEqual(minutes_within(spans, 0, 7), 4)
        self.assertEqual(spans, [(5, 9), (-1, 2)])


if __name__ == "__main__":
    unittest.main()
