"""Rows: inequalities that hold for every plan that keeps the rules (point 25)."""

from downpass.errors import BadRow
from downpass.forms import is_integer
from downpass.plans import is_filled
from downpass.spans import has_minute, lengthened
from downpass.worlds import light_minutes

# The words of the rows, with how many minutes stand behind the number of the thing.
MINUTES = {"room": 0, "station": 1, "satellite": 1, "store": 1, "energy": 1, "energy from": 2}


def check_row(world, row):
    """Raise BadRow if this is no row."""
    if not has_row_form(row):
        raise BadRow("not a word of a row with its numbers")
    word, number, *minutes = row
    if not 0 <= number < things_of(world, word):
        raise BadRow("a row of something that is not in the world")
    if not all([0 <= minute < world.horizon for minute in minutes]):
        raise BadRow("a row of a minute that is not in the world")
    if word == "energy from" and minutes[0] >= minutes[1]:
        raise BadRow("a row from a minute that is not ahead of the other one")


def has_row_form(row):
    """True for a tuple of a word of a row and as many integers as belong to it."""
    if not isinstance(row, tuple) or len(row) == 0 or not isinstance(row[0], str):
        return False
    if not all([is_integer(number) for number in row[1:]]):
        return False
    return row[0] in MINUTES and len(row) == 2 + MINUTES[row[0]]


def things_of(world, word):
    """How many things a row with this word can be of."""
    if word == "room":
        return len(world.passes)
    if word == "station":
        return len(world.stations)
    return len(world.satellites)


def recording_part(world, row, r, option):
    """What a recording adds to the left side of a row if it is made by this option."""
    word, number, *minutes = row
    recording = world.recordings[r]
    start, p = option
    if word == "room":
        return recording.size if p == number else 0
    if word == "station" or recording.satellite != number:
        return 0
    if word == "satellite":
        return busy_part(world, number, (start, start + recording.length), minutes[0])
    if word == "store":
        _, end = world.passes[p].span
        return recording.size if has_minute((start, end), minutes[0]) else 0
    return recording.energy if is_spent(start, minutes) else 0


def pass_part(world, row, p):
    """What a pass adds to the left side of a row if it is taken."""
    word, number, *minutes = row
    chance = world.passes[p]
    if word == "room":
        return -chance.room if p == number else 0
    if word == "station":
        turn = world.stations[chance.station].turn
        is_in = chance.station == number and has_minute(lengthened(chance.span, turn), minutes[0])
        return 1 if is_in else 0
    if word == "store" or chance.satellite != number:
        return 0
    if word == "satellite":
        return busy_part(world, number, chance.span, minutes[0])
    return chance.energy if is_spent(chance.span[0], minutes) else 0


def busy_part(world, number, span, minute):
    """1 if a satellite that is busy in the span is not settled at the minute, otherwise 0."""
    settle = world.satellites[number].settle
    return 1 if has_minute(lengthened(span, settle), minute) else 0


def is_spent(first, minutes):
    """True if what is spent at the minute first counts in a row of energy with these minutes."""
    # There is one minute, or the one from which on the row counts and then the one up to which it does.
    return first <= minutes[-1] and (len(minutes) == 1 or minutes[0] < first)


def right_side(world, row):
    """The right side of a row."""
    word, number, *minutes = row
    if word == "room":
        return 0
    if word == "station":
        return world.stations[number].antennas
    if word == "satellite":
        return 1
    satellite = world.satellites[number]
    if word == "store":
        return satellite.store
    if word == "energy":
        return satellite.start_level - satellite.reserve + charged(satellite, 0, minutes[0])
    first, last = minutes
    return satellite.battery - satellite.reserve + charged(satellite, first + 1, last)


def charged(satellite, first, end):
    """What the light of the minutes from first to end - 1 can add to the battery of a satellite."""
    return satellite.charge * light_minutes(satellite, first, end)


def left_side(world, row, plan):
    """The sum of the parts of all entries of a plan that are not None."""
    made, taken = plan
    parts = [recording_part(world, row, r, entry) for r, entry in enumerate(made) if is_filled(entry)]
    parts.extend([pass_part(world, row, p) for p, entry in enumerate(taken) if is_filled(entry)])
    return sum(parts)
