"""The rows that a plan breaks, found where its breaches are rather than by going over all rows."""

from downpass.flights import battery_lows, busy_things, store_peaks, taken_passes
from downpass.rules import sent_sizes
from downpass.spans import has_minute, lengthened


def broken_rows(world, plan):
    """A list of rows whose left side is above the right one in a plan of options and antennas.

    There is none only if the plan keeps the rules, but for a recording without size whose pass is
    not taken, and for antennas that others could take over in time.
    """
    found = room_rows(world, plan) + station_rows(world, plan)
    for number in range(len(world.satellites)):
        found.extend(satellite_rows(world, plan, number))
        found.extend(store_rows(world, plan, number))
        found.extend(energy_rows(world, plan, number))
    return found


def room_rows(world, plan):
    """The broken rows of rooms."""
    _, taken = plan
    rooms = [chance.room if entry is not None else 0 for chance, entry in zip(world.passes, taken)]
    sizes = sent_sizes(world, plan)
    return [("room", p) for p, room in enumerate(rooms) if sizes[p] > room]


def station_rows(world, plan):
    """The broken rows of stations."""
    spans = [[] for _ in world.stations]
    for p in taken_passes(world, plan):
        chance = world.passes[p]
        spans[chance.station].append(lengthened(chance.span, world.stations[chance.station].turn))
    found = []
    for number, station in enumerate(world.stations):
        found.extend([("station", number, minute) for minute in crowded(spans[number], station.antennas)])
    return found


def satellite_rows(world, plan, number):
    """The broken rows of a satellite that is busy with two things at once."""
    settle = world.satellites[number].settle
    spans = [lengthened(span, settle) for _, span in busy_things(world, plan, number)]
    return [("satellite", number, minute) for minute in crowded(spans, 1)]


def crowded(spans, most):
    """The list of the minutes, ascending, at which a span begins and more of them than so many are under way."""
    firsts = sorted(set([span[0] for span in spans]))
    return [first for first in firsts if len([span for span in spans if has_minute(span, first)]) > most]


def store_rows(world, plan, number):
    """The broken rows of the store of a satellite."""
    store = world.satellites[number].store
    return [("store", number, minute) for minute, used in store_peaks(world, plan, number) if used > store]


def energy_rows(world, plan, number):
    """The broken rows of the battery of a satellite, each from the last minute behind which it was full."""
    reserve = world.satellites[number].reserve
    lows = [(minute, full) for minute, level, full in battery_lows(world, plan, number) if level < reserve]
    return [("energy", number, minute) if full is None else ("energy from", number, full, minute)
            for minute, full in lows]
