"""Which open thing a search divides a case over."""

from downpass.rules import case_breaches


def pick(board, places, chosen):
    """One of the open things, if possible one that has a part in a breach of what the prices choose."""
    waiting = board.open_things(places)
    plan = board.case_of(chosen)
    for breach in case_breaches(board.world, plan):
        things = [thing for thing in things_of(board, breach, plan) if thing in waiting]
        if len(things) > 0:
            return narrowest(board, things)
    return narrowest(board, [thing for thing in waiting if chosen[thing] > 0] or waiting)


def narrowest(board, things):
    """The first of these things with the fewest choices."""
    return min(things, key=lambda thing: len(board.choices[thing]))


def things_of(board, breach, plan):
    """The list of the things that have a part in a breach of a plan of options and antennas."""
    many = board.measure.many_made
    made, taken = plan
    word, *told = breach
    if word == "untaken":
        _, p = made[told[0]]
        return [told[0], many + p]
    if word == "room":
        senders = [r for r, entry in enumerate(made) if entry is not None and entry[1] == told[0]]
        return senders + [many + told[0]]
    if word == "turn":
        return [many + p for p in told]
    if word == "busy":
        return [number if sort == "recording" else many + number for sort, number in told]
    # What is left are the breaches of the store and the battery of a satellite.
    recordings = [r for r, entry in enumerate(made) if entry is not None and is_of(board.world.recordings[r], told[0])]
    passes = [p for p, entry in enumerate(taken) if entry is not None and is_of(board.world.passes[p], told[0])]
    return recordings + [many + p for p in passes]


def is_of(owned, number):
    """True if a recording or a pass belongs to the satellite with this number."""
    return owned.satellite == number
