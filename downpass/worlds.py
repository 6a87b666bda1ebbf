"""Worlds and their texts (points 5 to 14)."""

from downpass.errors import TextFault
from downpass.lines import lines_of
from downpass.spans import minutes_within

# The numbers of the sorts, in the order of their lines.
SATELLITES = 0
STATIONS = 1
RECORDINGS = 2
PASSES = 3

MOST_UNITS = 1000000
MOST_CHARGE = 1000
MOST_DELAY = 60
MOST_ANTENNAS = 3
MOST_WORTH = 1000
MOST_RANK = 3
MOST_FEE = 1000


class Satellite:
    """A satellite (point 6); light is a tuple of spans."""

    def __init__(self, name, store, battery, start_level, reserve, charge, settle, light):
        self.name = name
        self.store = store
        self.battery = battery
        self.start_level = start_level
        self.reserve = reserve
        self.charge = charge
        self.settle = settle
        self.light = light


class Station:
    """A station (point 7)."""

    def __init__(self, name, antennas, turn):
        self.name = name
        self.antennas = antennas
        self.turn = turn


class Recording:
    """A recording (point 8); satellite is a number."""

    def __init__(self, name, satellite, earliest, latest, length, size, energy, worth, rank, deadline):
        self.name = name
        self.satellite = satellite
        self.earliest = earliest
        self.latest = latest
        self.length = length
        self.size = size
        self.energy = energy
        self.worth = worth
        self.rank = rank
        self.deadline = deadline


class Pass:
    """A pass (point 9); satellite and station are numbers."""

    def __init__(self, name, satellite, station, span, room, energy, fee):
        self.name = name
        self.satellite = satellite
        self.station = station
        self.span = span
        self.room = room
        self.energy = energy
        self.fee = fee


class World:
    """A world (point 5); things of a sort have their places in its tuples as numbers."""

    MOST_HORIZON = 500
    MOST_SATELLITES = 3
    MOST_STATIONS = 3
    MOST_RECORDINGS = 10
    MOST_PASSES = 10
    MOST_SHIFT = 20

    def __init__(self, text, horizon, things):
        satellites, stations, recordings, passes = things
        self.text = text
        self.horizon = horizon
        self.satellites = tuple(satellites)
        self.stations = tuple(stations)
        self.recordings = tuple(recordings)
        self.passes = tuple(passes)

    @staticmethod
    def parse(text):
        """The world of a text (points 11 and 12)."""
        lines = lines_of(text)
        if len(lines) == 0:
            raise TextFault(1, 1, "missing line")
        horizon = lines[0].read_field("horizon", 1, World.MOST_HORIZON)
        lines[0].finish()
        # A text that can be read has no second way to be written, so it is the normal text.
        return World(text, horizon, read_things(lines[1:], horizon))

    def __eq__(self, other):
        return isinstance(other, World) and self.text == other.text


def options(world, number):
    """The options of a recording: the pairs (start, p), ascending (point 14)."""
    recording = world.recordings[number]
    starts = range(recording.earliest, recording.latest + 1)
    pairs = [(start, p) for start in starts for p in range(len(world.passes))]
    return tuple([pair for pair in pairs if is_option(world, number, pair)])


def is_option(world, number, pair):
    """True if a pair (start, p) is one of the options of a recording (point 14)."""
    recording = world.recordings[number]
    start, p = pair
    chance = world.passes[p]
    if chance.satellite != recording.satellite or not recording.earliest <= start <= recording.latest:
        return False
    first, end = chance.span
    return start + recording.length <= first and end <= recording.deadline


def has_antenna(world, p, antenna):
    """True if this is the number of an antenna of the station of a pass."""
    station = world.passes[p].station
    return 0 <= antenna < world.stations[station].antennas


def light_minutes(satellite, first, end):
    """How many minutes from first to end - 1 the satellite is in light."""
    return minutes_within(satellite.light, first, end)


def names_of(things):
    """The list of the names of things of one sort."""
    return [thing.name for thing in things]


def read_satellite(line, horizon, things):
    """Read a line `satellite` behind its first word."""
    name = line.read_new_name(names_of(things[SATELLITES]))
    store = line.read_field("store", 0, MOST_UNITS)
    battery = line.read_field("battery", 0, MOST_UNITS)
    level = line.read_field("level", 0, battery)
    reserve = line.read_field("reserve", 0, level)
    charge = line.read_field("charge", 0, MOST_CHARGE)
    settle = line.read_field("settle", 0, MOST_DELAY)
    line.read_choice(("light",))
    light = read_light(line, horizon)
    return Satellite(name, store, battery, level, reserve, charge, settle, light)


def read_light(line, horizon):
    """Read the spans of light up to the end of the line."""
    light = []
    least = 0
    while line.has_more():
        first = line.read_number(least, horizon - 1)
        least = line.read_number(first + 1, horizon)
        light.append((first, least))
    return tuple(light)


def read_station(line, _, things):
    """Read a line `station` behind its first word."""
    name = line.read_new_name(names_of(things[STATIONS]))
    antennas = line.read_field("antennas", 1, MOST_ANTENNAS)
    turn = line.read_field("turn", 0, MOST_DELAY)
    return Station(name, antennas, turn)


def read_recording(line, horizon, things):
    """Read a line `recording` behind its first word."""
    name = line.read_new_name(names_of(things[RECORDINGS]))
    line.read_choice(("by",))
    satellite = line.read_known_name(names_of(things[SATELLITES]))
    earliest = line.read_field("from", 0, horizon - 1)
    latest = line.read_field("to", earliest, min(earliest + World.MOST_SHIFT, horizon - 1))
    length = line.read_field("length", 1, horizon - latest)
    size = line.read_field("size", 0, MOST_UNITS)
    energy = line.read_field("energy", 0, MOST_UNITS)
    worth = line.read_field("worth", 1, MOST_WORTH)
    rank = line.read_field("rank", 1, MOST_RANK)
    deadline = line.read_field("until", 0, horizon)
    return Recording(name, satellite, earliest, latest, length, size, energy, worth, rank, deadline)


def read_pass(line, horizon, things):
    """Read a line `pass` behind its first word."""
    name = line.read_new_name(names_of(things[PASSES]))
    line.read_choice(("by",))
    satellite = line.read_known_name(names_of(things[SATELLITES]))
    line.read_choice(("over",))
    station = line.read_known_name(names_of(things[STATIONS]))
    first = line.read_field("from", 0, horizon - 1)
    end = line.read_field("to", first + 1, horizon)
    room = line.read_field("room", 0, MOST_UNITS)
    energy = line.read_field("energy", 0, MOST_UNITS)
    fee = line.read_field("fee", 0, MOST_FEE)
    return Pass(name, satellite, station, (first, end), room, energy, fee)


# By the numbers of the sorts: the first word of a line, and what reads the rest of it.
SORTS = ("satellite", "station", "recording", "pass")
READERS = (read_satellite, read_station, read_recording, read_pass)


def read_things(lines, horizon):
    """Read the lines behind the first one: a list of the things of each sort."""
    things = ([], [], [], [])
    sort = 0
    for line in lines:
        sort = read_sort(line, sort, things)
        reader = READERS[sort]
        things[sort].append(reader(line, horizon, things))
        line.finish()
    return things


def read_sort(line, ahead, things):
    """Read the first word of a line: the number of its sort, behind a line of the sort ahead."""
    word = line.due()
    if word not in SORTS:
        line.refuse("unexpected word")
    sort = SORTS.index(word)
    if sort < ahead:
        line.refuse("line out of order")
    if len(things[sort]) == most_things(sort):
        line.refuse("too many lines")
    line.step()
    return sort


def most_things(sort):
    """How many things of a sort a world may have."""
    most = (World.MOST_SATELLITES, World.MOST_STATIONS, World.MOST_RECORDINGS, World.MOST_PASSES)
    return most[sort]
