"""What the things that callers hand in are made of."""


def is_tuple_of(thing, many):
    """True for a tuple with so many items."""
    return isinstance(thing, tuple) and len(thing) == many


def is_integer(thing):
    """True for an integer; True and False are none."""
    return isinstance(thing, int) and not isinstance(thing, bool)
