"""Spans: pairs (first, end), the minutes from first to end - 1 (point 4)."""


def meet(one, other):
    """True if two spans have a minute in common."""
    return one[0] < other[1] and other[0] < one[1]


def lengthened(span, minutes):
    """The span with so many minutes more at its end."""
    first, end = span
    return (first, end + minutes)


def has_minute(span, minute):
    """True if the minute is in the span."""
    return span[0] <= minute < span[1]


def minutes_within(spans, first, end):
    """How many minutes from first to end - 1 are in the spans, which do not meet."""
    # Where first is not ahead of end, each difference is 0 or below.
    return sum([max(0, min(end, span[1]) - max(first, span[0])) for span in spans])
