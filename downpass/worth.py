"""What plans are worth (points 23 and 24)."""


def value_of(world, plan):
    """The value of a plan: the worths by rank, then the fees, negative (point 23)."""
    made, taken = plan
    worths = [0, 0, 0]
    for recording, entry in zip(world.recordings, made):
        if entry is not None:
            worths[recording.rank - 1] += recording.worth
    return (*worths, -fees_of(world, taken))


def fees_of(world, taken):
    """The sum of the fees of the passes whose entry is not None."""
    return sum([chance.fee for chance, entry in zip(world.passes, taken) if entry is not None])


def is_better(world, plan, other):
    """True if a plan is better than another one (point 23)."""
    return value_of(world, plan) > value_of(world, other)


def base_of(world):
    """1 more than the greater one of the sums of all worths and of all fees (point 24)."""
    worths = sum([recording.worth for recording in world.recordings])
    fees = sum([chance.fee for chance in world.passes])
    return 1 + max(worths, fees)


def recording_weight(world, r):
    """The weight of a recording (point 24)."""
    recording = world.recordings[r]
    base = base_of(world)
    weight = recording.worth
    for _ in range(4 - recording.rank):
        weight *= base
    return weight


def weight_of(world, plan):
    """The weight of a plan (point 24)."""
    made, taken = plan
    weights = [recording_weight(world, r) for r, entry in enumerate(made) if entry is not None]
    return sum(weights) - fees_of(world, taken)
