"""A second reckoning of points 14 and 17 to 24, straight from the document and minute by minute.

It reads the attributes of a world, and uses no function of the package.
"""

WORDS = ["recorded", "sent", "records", "sends"]


def options_of(world):
    """The list of the options of each recording."""
    found = []
    for recording in world.recordings:
        pairs = []
        for start in range(recording.earliest, recording.latest + 1):
            for p, chance in enumerate(world.passes):
                if (chance.satellite == recording.satellite
                        and start + recording.length <= chance.span[0]
                        and chance.span[1] <= recording.deadline):
                    pairs.append((start, p))
        found.append(pairs)
    return found


def made_of(world, case):
    """A dict from the recordings that are made to their options."""
    pairs = options_of(world)
    return {r: case[0][r] for r in range(len(world.recordings)) if case[0][r] in pairs[r]}


def taken_of(world, case):
    """A dict from the passes that are taken to their antennas."""
    found = {}
    for p, chance in enumerate(world.passes):
        if case[1][p] in list(range(world.stations[chance.station].antennas)):
            found[p] = case[1][p]
    return found


def busy_minutes(world, case, s, longer=0):
    """A list of (thing, set of minutes) for what a satellite is busy with, lengthened."""
    found = []
    for r, (start, _) in sorted(made_of(world, case).items()):
        if world.recordings[r].satellite == s:
            end = start + world.recordings[r].length + longer
            found.append((("recording", r), set(range(start, end))))
    for p in sorted(taken_of(world, case)):
        if world.passes[p].satellite == s:
            first, end = world.passes[p].span
            found.append((("pass", p), set(range(first, end + longer))))
    return found


def used_of(world, case, s):
    """The store that a satellite uses, for each minute."""
    made = made_of(world, case)
    used = []
    for minute in range(world.horizon):
        total = 0
        for r, (start, p) in made.items():
            if world.recordings[r].satellite == s and minute in range(start, world.passes[p].span[1]):
                total += world.recordings[r].size
        used.append(total)
    return tuple(used)


def spent_of(world, case, s):
    """What a satellite spends, for each minute."""
    made, taken = made_of(world, case), taken_of(world, case)
    spent = []
    for minute in range(world.horizon):
        total = 0
        for r, (start, _) in made.items():
            if world.recordings[r].satellite == s and start == minute:
                total += world.recordings[r].energy
        for p in taken:
            if world.passes[p].satellite == s and world.passes[p].span[0] == minute:
                total += world.passes[p].energy
        spent.append(total)
    return spent


def levels_of(world, case, s):
    """The level of a satellite's battery, for each minute."""
    satellite = world.satellites[s]
    energy = satellite.start_level
    levels = []
    for minute, spent in enumerate(spent_of(world, case, s)):
        energy -= spent
        levels.append(energy)
        if any(minute in range(first, end) for first, end in satellite.light):
            energy += satellite.charge
        if energy > satellite.battery:
            energy = satellite.battery
    return tuple(levels)


def events_of(world, case):
    """The list of the events."""
    found = []
    for r, (start, _) in made_of(world, case).items():
        found += [(start, "records", r), (start + world.recordings[r].length, "recorded", r)]
    for p in taken_of(world, case):
        found += [(world.passes[p].span[0], "sends", p), (world.passes[p].span[1], "sent", p)]
    return [(minute, word, number)
            for minute in range(world.horizon + 1) for word in WORDS for number in range(10)
            if (minute, word, number) in found]


def breaches_of(world, case):
    """The list of the breaches."""
    found = recordings_broken(world, case) + passes_broken(world, case) + turns_broken(world, case)
    for s in range(len(world.satellites)):
        things = busy_minutes(world, case, s, world.satellites[s].settle)
        for k, (x, minutes) in enumerate(things):
            for y, others in things[k + 1:]:
                if minutes & others:
                    found.append(("busy", x, y))
    for s, satellite in enumerate(world.satellites):
        over = [m for m, used in enumerate(used_of(world, case, s)) if used > satellite.store]
        if over:
            found.append(("store", s, min(over)))
        low = [m for m, level in enumerate(levels_of(world, case, s)) if level < satellite.reserve]
        if low:
            found.append(("energy", s, min(low)))
    return found


def recordings_broken(world, case):
    """The breaches under 1 of point 21."""
    made = made_of(world, case)
    found = []
    for r, entry in enumerate(case[0]):
        if entry not in (None, "open"):
            if r not in made:
                found.append(("option", r))
            elif case[1][entry[1]] is None:
                found.append(("untaken", r))
    return found


def passes_broken(world, case):
    """The breaches under 2 of point 21."""
    taken = taken_of(world, case)
    found = []
    for p, entry in enumerate(case[1]):
        if entry not in (None, "open"):
            sent = [world.recordings[r].size for r, pair in made_of(world, case).items() if pair[1] == p]
            if p not in taken:
                found.append(("antenna", p))
            elif sum(sent) > world.passes[p].room:
                found.append(("room", p))
    return found


def turns_broken(world, case):
    """The breaches under 3 of point 21."""
    taken = taken_of(world, case)
    found = []
    for p in range(len(world.passes)):
        for p2 in range(p + 1, len(world.passes)):
            one, other = world.passes[p], world.passes[p2]
            if p in taken and p2 in taken and one.station == other.station and taken[p] == taken[p2]:
                turn = world.stations[one.station].turn
                minutes = set(range(one.span[0], one.span[1] + turn))
                if minutes & set(range(other.span[0], other.span[1] + turn)):
                    found.append(("turn", p, p2))
    return found


def value_of(world, plan):
    """The value of a plan."""
    sums = []
    for rank in (1, 2, 3):
        sums.append(sum(recording.worth for r, recording in enumerate(world.recordings)
                        if recording.rank == rank and plan[0][r] is not None))
    fees = sum(chance.fee for p, chance in enumerate(world.passes) if plan[1][p] is not None)
    return (sums[0], sums[1], sums[2], -fees)


def base_of(world):
    """The base of a world."""
    return 1 + max(sum(recording.worth for recording in world.recordings),
                   sum(chance.fee for chance in world.passes))


def weight_of(world, plan):
    """The weight of a plan."""
    v1, v2, v3, less_fees = value_of(world, plan)
    base = base_of(world)
    return v1 * base ** 3 + v2 * base ** 2 + v3 * base + less_fees
