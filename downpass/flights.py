"""What happens in a case, minute by minute (points 18 to 20)."""

from downpass.plans import check_case, is_filled
from downpass.spans import has_minute
from downpass.worlds import has_antenna, is_option, light_minutes

# The words of the events, in the order in which those of one minute are listed.
WORDS = ("recorded", "sent", "records", "sends")
RECORDED = 0
SENT = 1
RECORDS = 2
SENDS = 3


def made_recordings(world, case):
    """A list of (r, start, p) for the recordings that are made in a case, by their numbers."""
    found = []
    for r, entry in enumerate(case[0]):
        if is_filled(entry) and is_option(world, r, entry):
            start, p = entry
            found.append((r, start, p))
    return found


def taken_passes(world, case):
    """The list of the numbers of the passes that are taken in a case."""
    return [p for p, entry in enumerate(case[1]) if is_filled(entry) and has_antenna(world, p, entry)]


def busy_things(world, case, number):
    """A list of (thing, span) for the things that a satellite is busy with, as point 21 orders them."""
    found = []
    for r, start, _ in made_recordings(world, case):
        recording = world.recordings[r]
        if recording.satellite == number:
            found.append((("recording", r), (start, start + recording.length)))
    for p in taken_passes(world, case):
        chance = world.passes[p]
        if chance.satellite == number:
            found.append((("pass", p), chance.span))
    return found


def energy_of(world, thing):
    """How much a thing that a satellite is busy with spends."""
    sort, number = thing
    if sort == "recording":
        return world.recordings[number].energy
    return world.passes[number].energy


def store_used(world, case, number):
    """The tuple of the store that a satellite uses at each minute (point 19)."""
    # A pass may end with the last minute, so there is one change more than there are minutes.
    changes = [0] * (world.horizon + 1)
    for r, start, p in made_recordings(world, case):
        recording = world.recordings[r]
        if recording.satellite == number:
            _, end = world.passes[p].span
            changes[start] += recording.size
            changes[end] -= recording.size
    used = []
    held = 0
    for change in changes[:world.horizon]:
        held += change
        used.append(held)
    return tuple(used)


def spending(world, case, number):
    """A dict from the minutes at which a satellite spends energy to how much."""
    spent = {}
    for thing, span in busy_things(world, case, number):
        # Recordings and passes alike spend their energy at the first minute at which they are busy.
        first, _ = span
        spent[first] = spent.get(first, 0) + energy_of(world, thing)
    return spent


def charges(world, number):
    """The list of what is added to the battery of a satellite behind each minute."""
    satellite = world.satellites[number]
    added = [0] * world.horizon
    for first, end in satellite.light:
        added[first:end] = [satellite.charge] * (end - first)
    return added


def battery_levels(world, case, number):
    """The tuple of the levels of the battery of a satellite at each minute (point 19)."""
    satellite = world.satellites[number]
    spent = spending(world, case, number)
    levels = []
    ahead = satellite.start_level
    for minute, charge in enumerate(charges(world, number)):
        level = ahead - spent.get(minute, 0)
        levels.append(level)
        ahead = min(satellite.battery, level + charge)
    return tuple(levels)


def store_peaks(world, case, number):
    """A list of (minute, used) for the minutes, ascending, at which a satellite begins to hold something.

    It uses more store than a minute before at none but these.
    """
    held = []
    for r, start, p in made_recordings(world, case):
        recording = world.recordings[r]
        if recording.satellite == number:
            _, end = world.passes[p].span
            held.append(((start, end), recording.size))
    minutes = sorted(set([span[0] for span, _ in held]))
    return [(minute, sum([size for span, size in held if has_minute(span, minute)])) for minute in minutes]


def battery_lows(world, case, number):
    """A list of (minute, level, full) for the minutes, ascending, at which a satellite spends energy.

    Its level is lower than a minute before at none but these. full is the last minute known behind
    which the battery was full, or None if there is none.
    """
    satellite = world.satellites[number]
    spent = spending(world, case, number)
    found = []
    level = satellite.start_level
    last = 0
    full = None
    for minute in sorted(spent):
        level += satellite.charge * light_minutes(satellite, last, minute)
        if level >= satellite.battery and minute > 0:
            level = satellite.battery
            full = minute - 1
        level -= spent[minute]
        last = minute
        found.append((minute, level, full))
    return found


def events_of(world, case):
    """The tuple of the events of a case (point 20)."""
    found = []
    for r, start, _ in made_recordings(world, case):
        found.append((start, RECORDS, r))
        found.append((start + world.recordings[r].length, RECORDED, r))
    for p in taken_passes(world, case):
        first, end = world.passes[p].span
        found.append((first, SENDS, p))
        found.append((end, SENT, p))
    return tuple([(minute, WORDS[kind], number) for minute, kind, number in sorted(found)])


class Flight:
    """What happens in a case: its events, and what each satellite uses and has left."""

    def __init__(self, world, case):
        check_case(world, case)
        numbers = range(len(world.satellites))
        self.used = tuple([store_used(world, case, number) for number in numbers])
        self.levels = tuple([battery_levels(world, case, number) for number in numbers])
        self.events = events_of(world, case)

    def __iter__(self):
        return iter(self.events)

    def __len__(self):
        return len(self.events)
