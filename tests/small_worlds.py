"""Lines of worlds in which a test tells only what counts for it."""

from downpass.worlds import World
from tests.samples import text_of


def satellite(name="Ara", *, store=100, battery=100, level=None, reserve=0, charge=0, settle=0, light=""):
    """A line of a satellite, whose battery is full at the start unless a level is told."""
    level = battery if level is None else level
    return (f"satellite {name} store {store} battery {battery} level {level} reserve {reserve}"
            f" charge {charge} settle {settle} light{light}")


def station(name="Fell", *, antennas=1, turn=0):
    """A line of a station."""
    return f"station {name} antennas {antennas} turn {turn}"


def recording(name, first, last, length, *, by="Ara", size=0, energy=0, worth=1, rank=1, until=60):
    """A line of a recording, which starts from the first minute to the last one."""
    return (f"recording {name} by {by} from {first} to {last} length {length} size {size}"
            f" energy {energy} worth {worth} rank {rank} until {until}")


def chance(name, first, end, *, by="Ara", over="Fell", room=100, energy=0, fee=0):
    """A line of a pass."""
    return f"pass {name} by {by} over {over} from {first} to {end} room {room} energy {energy} fee {fee}"


def world_of(*lines, horizon=60):
    """The world with these lines behind that of the horizon."""
    return World.parse(text_of([f"horizon {horizon}", *lines]))
