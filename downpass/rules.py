"""The rules, and what breaks them (points 21 and 22)."""

from downpass.flights import battery_lows, busy_things, made_recordings, store_peaks, taken_passes
from downpass.plans import check_case, check_plan, is_filled
from downpass.spans import lengthened, meet
from downpass.worlds import has_antenna, is_option


def case_breaches(world, case):
    """The list of the breaches of a case (point 21)."""
    check_case(world, case)
    found = recording_breaches(world, case) + pass_breaches(world, case) + turn_breaches(world, case)
    numbers = range(len(world.satellites))
    for number in numbers:
        found.extend(busy_breaches(world, case, number))
    for number in numbers:
        found.extend(unit_breaches(world, case, number))
    return found


def first_breach(world, case):
    """The first breach of a case, or None; the others are not looked for."""
    found = recording_breaches(world, case) or pass_breaches(world, case) or turn_breaches(world, case)
    for number in range(len(world.satellites)):
        found = found or busy_breaches(world, case, number)
    for number in range(len(world.satellites)):
        found = found or unit_breaches(world, case, number)
    return found[0] if len(found) > 0 else None


def breaches(world, plan):
    """The list of the breaches of a plan (point 21)."""
    check_plan(world, plan)
    return case_breaches(world, plan)


def keeps_rules(world, plan):
    """True if a plan has no breach (point 22)."""
    return len(breaches(world, plan)) == 0


def recording_breaches(world, case):
    """The breaches of single recordings."""
    made, taken = case
    found = []
    for r, entry in enumerate(made):
        if not is_filled(entry):
            continue
        _, p = entry
        if not is_option(world, r, entry):
            found.append(("option", r))
        elif taken[p] is None:
            found.append(("untaken", r))
    return found


def pass_breaches(world, case):
    """The breaches of single passes."""
    sizes = sent_sizes(world, case)
    found = []
    for p, entry in enumerate(case[1]):
        if not is_filled(entry):
            continue
        if not has_antenna(world, p, entry):
            found.append(("antenna", p))
        elif sizes[p] > world.passes[p].room:
            found.append(("room", p))
    return found


def sent_sizes(world, case):
    """The list of the sums of the sizes of the recordings that each pass sends."""
    sizes = [0] * len(world.passes)
    for r, _, p in made_recordings(world, case):
        sizes[p] += world.recordings[r].size
    return sizes


def turn_breaches(world, case):
    """The breaches of antennas that do not turn in time."""
    numbers = taken_passes(world, case)
    found = []
    for at, p in enumerate(numbers):
        for other in numbers[at + 1:]:
            if on_one_antenna(world, case, p, other) and too_close_to_turn(world, p, other):
                found.append(("turn", p, other))
    return found


def on_one_antenna(world, case, p, other):
    """True if two passes that are taken are taken by the same antenna of one station."""
    taken = case[1]
    return world.passes[p].station == world.passes[other].station and taken[p] == taken[other]


def too_close_to_turn(world, p, other):
    """True if two passes of one station leave an antenna no time to turn between them."""
    chance = world.passes[p]
    turn = world.stations[chance.station].turn
    return too_close(chance.span, world.passes[other].span, turn)


def too_close(span, other, minutes):
    """True if two spans meet, both lengthened by so many minutes."""
    return meet(lengthened(span, minutes), lengthened(other, minutes))


def busy_breaches(world, case, number):
    """The breaches of a satellite that is busy with two things at once."""
    settle = world.satellites[number].settle
    things = busy_things(world, case, number)
    found = []
    for at, (thing, span) in enumerate(things):
        for other, other_span in things[at + 1:]:
            if too_close(span, other_span, settle):
                found.append(("busy", thing, other))
    return found


def unit_breaches(world, case, number):
    """The breaches of the store and of the battery of a satellite."""
    satellite = world.satellites[number]
    # The first minute of a breach is one at which something begins to be held, or is spent.
    over = [minute for minute, used in store_peaks(world, case, number) if used > satellite.store]
    low = [minute for minute, level, _ in battery_lows(world, case, number) if level < satellite.reserve]
    found = [("store", number, minute) for minute in over[:1]]
    return found + [("energy", number, minute) for minute in low[:1]]
