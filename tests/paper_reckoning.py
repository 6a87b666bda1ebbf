"""A second reckoning of points 25 to 31 and 37, straight from the document.

It reads the attributes of a world, and uses no function of the package.
"""

from tests import reckoning


def is_lit(satellite, minute):
    """True if a satellite is in light at a minute."""
    return any(first <= minute < end for first, end in satellite.light)


def charge_of(satellite, minutes):
    """What is charged over these minutes."""
    return sum(satellite.charge for minute in minutes if is_lit(satellite, minute))


def recording_part_of(world, row, r, option):
    """What a recording adds to the left side of a row."""
    recording = world.recordings[r]
    start, p = option
    n = recording.length
    word = row[0]
    if word == "room":
        return recording.size if row[1] == p else 0
    if word == "station" or recording.satellite != row[1]:
        return 0
    q = world.satellites[row[1]].settle
    if word == "satellite":
        return 1 if start <= row[2] < start + n + q else 0
    if word == "store":
        return recording.size if start <= row[2] < world.passes[p].span[1] else 0
    if word == "energy":
        return recording.energy if start <= row[2] else 0
    assert word == "energy from"
    return recording.energy if row[2] < start <= row[3] else 0


def pass_part_of(world, row, p):
    """What a pass adds to the left side of a row."""
    chance = world.passes[p]
    a, b = chance.span
    word = row[0]
    if word == "room":
        return -chance.room if row[1] == p else 0
    if word == "station":
        return 1 if chance.station == row[1] and a <= row[2] < b + world.stations[row[1]].turn else 0
    if word == "store" or chance.satellite != row[1]:
        return 0
    if word == "satellite":
        return 1 if a <= row[2] < b + world.satellites[row[1]].settle else 0
    if word == "energy":
        return chance.energy if a <= row[2] else 0
    assert word == "energy from"
    return chance.energy if row[2] < a <= row[3] else 0


def right_of(world, row):
    """The right side of a row."""
    word = row[0]
    if word == "room":
        return 0
    if word == "station":
        return world.stations[row[1]].antennas
    if word == "satellite":
        return 1
    satellite = world.satellites[row[1]]
    if word == "store":
        return satellite.store
    if word == "energy":
        return satellite.start_level - satellite.reserve + charge_of(satellite, range(0, row[2]))
    assert word == "energy from"
    return satellite.battery - satellite.reserve + charge_of(satellite, range(row[2] + 1, row[3]))


def left_of(world, row, plan):
    """The left side of a row for a plan."""
    total = 0
    for r, entry in enumerate(plan[0]):
        if entry is not None:
            total += recording_part_of(world, row, r, entry)
    for p, entry in enumerate(plan[1]):
        if entry is not None:
            total += pass_part_of(world, row, p)
    return total


def all_rows(world):
    """All the rows of a world."""
    minutes = range(world.horizon)
    satellites = range(len(world.satellites))
    rows = [("room", p) for p in range(len(world.passes))]
    rows += [("station", s, m) for s in range(len(world.stations)) for m in minutes]
    rows += [(word, s, m) for word in ("satellite", "store", "energy") for s in satellites for m in minutes]
    return rows + [("energy from", s, m0, m) for s in satellites for m0 in minutes for m in minutes if m0 < m]


def recording_weight_of(world, r):
    """The weight of a recording."""
    recording = world.recordings[r]
    return recording.worth * reckoning.base_of(world) ** (4 - recording.rank)


def bound_of(world, case, divisor, prices):
    """The bound of a case under prices."""
    total = sum(price * right_of(world, row) for row, price in prices)
    pairs = reckoning.options_of(world)
    for r, entry in enumerate(case[0]):
        def net(option):
            cost = sum(price * recording_part_of(world, row, r, option) for row, price in prices)
            return divisor * recording_weight_of(world, r) - cost
        if entry == "open":
            total += max([0] + [net(option) for option in pairs[r]])
        elif entry is not None:
            total += net(entry)
    for p, entry in enumerate(case[1]):
        cost = sum(price * pass_part_of(world, row, p) for row, price in prices)
        net_pass = -divisor * world.passes[p].fee - cost
        if entry == "open":
            total += max(0, net_pass)
        elif entry is not None:
            total += net_pass
    return total


def is_row(world, row):
    """True if this is a row of the world; asked of what may be anything."""
    return isinstance(row, tuple) and row in all_rows(world)


def usable(world, divisor, prices):
    """True if the prices can be used; asked of what may be anything."""
    if not isinstance(divisor, int) or divisor < 1 or not isinstance(prices, tuple):
        return False
    for pair in prices:
        if not isinstance(pair, tuple) or len(pair) != 2 or not is_row(world, pair[0]):
            return False
        if not isinstance(pair[1], int) or pair[1] < 0:
            return False
    return True


def put(entries, at, entry):
    """The entries with another one in this place."""
    return tuple(entry if k == at else other for k, other in enumerate(entries))


def ways_of(world, case, sort, number):
    """The cases in which a recording or a pass is decided in each way, None first."""
    made, taken = case
    if sort == "recording":
        return [(put(made, number, entry), taken) for entry in [None] + reckoning.options_of(world)[number]]
    antennas = range(world.stations[world.passes[number].station].antennas)
    return [(made, put(taken, number, entry)) for entry in [None] + list(antennas)]


def closes_of(world, case, weight, paper, bounded=bound_of):
    """True if a paper closes a case for a weight; bounded gives the bound of a case."""
    if not isinstance(paper, tuple) or len(paper) not in (2, 3):
        return False
    if paper[0] == "breach":
        return len(paper) == 2 and paper[1] in reckoning.breaches_of(world, case)
    if len(paper) != 3:
        return False
    if paper[0] == "bound":
        return usable(world, paper[1], paper[2]) and bounded(world, case, paper[1], paper[2]) <= paper[1] * weight
    if paper[0] not in ("recording", "pass"):
        return False
    entries = case[0] if paper[0] == "recording" else case[1]
    if not isinstance(paper[1], int) or paper[1] not in range(len(entries)) or entries[paper[1]] != "open":
        return False
    ways = ways_of(world, case, paper[0], paper[1])
    if not isinstance(paper[2], tuple) or len(paper[2]) != len(ways):
        return False
    return all(closes_of(world, way, weight, inner, bounded) for way, inner in zip(ways, paper[2]))


def lowest_of(world):
    """The lowest weight of a world."""
    return -1 - sum(chance.fee for chance in world.passes)


def whole_paper(world, case):
    """The paper in which everything open is decided, in order, with a breach or a bound at each end."""
    found = reckoning.breaches_of(world, case)
    if found:
        return ("breach", found[-1])
    for sort, entries in (("recording", case[0]), ("pass", case[1])):
        for number, entry in enumerate(entries):
            if entry == "open":
                ways = ways_of(world, case, sort, number)
                return (sort, number, tuple(whole_paper(world, way) for way in ways))
    return ("bound", 1, ())


def choices_in(paper):
    """How many choices a paper makes."""
    if paper[0] not in ("recording", "pass"):
        return 0
    return 1 + sum(choices_in(inner) for inner in paper[2])
