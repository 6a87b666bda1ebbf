"""Worlds, cases and plans made by a seeded generator, so that each run sees the same ones."""

import random

from downpass.worlds import World
from tests.reckoning import breaches_of
from tests.samples import text_of


def made_world(seed):
    """A small and crowded world; the seed tells which. Every other one has room for more."""
    dice = random.Random(seed)
    roomy = seed % 2 == 1
    horizon = dice.choice([30, 45] if roomy else [1, 2, 5, 12, 20, 30])
    satellites = dice.choice([1, 1, 2, 3]) if roomy else dice.randint(0, 3)
    stations = dice.randint(1, 3) if roomy else dice.randint(0, 3)
    recordings = dice.randint(0, 10) if satellites > 0 else 0
    passes = dice.randint(0, 10) if satellites > 0 and stations > 0 else 0
    lines = [f"horizon {horizon}"]
    lines += [satellite_words(dice, k, horizon, roomy) for k in range(satellites)]
    lines += [f"station st{k} antennas {dice.randint(1, 3)} turn {dice.choice([0, 0, 1, 2, 5])}"
              for k in range(stations)]
    lines += [recording_words(dice, k, satellites, horizon) for k in range(recordings)]
    lines += [pass_words(dice, k, satellites, stations, horizon) for k in range(passes)]
    return World.parse(text_of(lines))


def satellite_words(dice, k, horizon, roomy):
    """A line of a satellite."""
    battery = dice.choice([20, 40] if roomy else [0, 5, 10, 20])
    level = dice.choice([battery, dice.randint(0, battery)])
    reserve = dice.choice([0, dice.randint(0, level), 0 if roomy else level])
    minutes = sorted(dice.sample(range(horizon + 1), min(horizon + 1, 2 * dice.randint(0, 3)) // 2 * 2))
    light = "".join([f" {minute}" for minute in minutes])
    return (f"satellite sat{k} store {dice.choice([9, 15, 30] if roomy else [0, 4, 9])} battery {battery} level {level}"
            f" reserve {reserve} charge {dice.choice([0, 1, 2, 5])} settle {dice.choice([0, 0, 1, 2, 5])}"
            f" light{light}")


def recording_words(dice, k, satellites, horizon):
    """A line of a recording."""
    earliest = dice.randint(0, max(0, horizon // 2 - 1))
    latest = dice.randint(earliest, min(earliest + 4, horizon - 1))
    length = dice.randint(1, min(6, horizon - latest))
    deadline = dice.choice([horizon, horizon, dice.randint(0, horizon)])
    return (f"recording r{k} by sat{dice.randrange(satellites)} from {earliest} to {latest} length {length}"
            f" size {dice.randint(0, 8)} energy {dice.choice([0, 1, dice.randint(0, 8)])} worth {dice.choice([1, 2, 3, 9, 1000])}"
            f" rank {dice.randint(1, 3)} until {deadline}")


def pass_words(dice, k, satellites, stations, horizon):
    """A line of a pass."""
    first = dice.randint(0, horizon - 1)
    end = dice.randint(first + 1, min(first + 7, horizon))
    return (f"pass p{k} by sat{dice.randrange(satellites)} over st{dice.randrange(stations)}"
            f" from {first} to {end} room {dice.choice([0, 5, 10, 20])} energy {dice.randint(0, 5)}"
            f" fee {dice.choice([0, 1, 2, 5, 1000])}")


def made_case(world, options_of, seed, opens=True):
    """A case of the world with entries of every kind; without open ones it is a plan.

    options_of gives the options of each recording.
    """
    dice = random.Random(seed)
    if dice.randrange(4) == 0:
        return tame_case(dice, world, options_of, opens)
    kinds = ["none", "option", "option"] + ["any"] * dice.choice([0, 1, 3]) + (["open"] if opens else [])
    made = [made_entry(dice, world, r, options_of[r], dice.choice(kinds)) for r in range(len(world.recordings))]
    taken = [taken_entry(dice, world, p, dice.choice(kinds)) for p in range(len(world.passes))]
    return (tuple(made), tuple(taken))


def tame_case(dice, world, options_of, opens):
    """A case without a breach, with as much made as the tried options allow."""
    rest = "open" if opens else None
    case = ((rest,) * len(world.recordings), (rest,) * len(world.passes))
    for r in dice.sample(range(len(case[0])), min(len(case[0]), 5)):
        if len(options_of[r]) > 0:
            start, p = dice.choice(options_of[r])
            made = case[0][:r] + ((start, p),) + case[0][r + 1:]
            taken = case[1][:p] + (0,) + case[1][p + 1:]
            if breaches_of(world, (made, taken)) == []:
                case = (made, taken)
    return case


def made_entry(dice, world, r, pairs, kind):
    """An entry of a recording."""
    if kind == "open":
        return "open"
    if kind == "option" and len(pairs) > 0:
        return dice.choice(pairs)
    if kind == "any" and len(world.passes) > 0:
        recording = world.recordings[r]
        start = dice.randint(recording.earliest - 2, recording.latest + 2)
        return (start, dice.randrange(len(world.passes)))
    return None


def taken_entry(dice, world, p, kind):
    """An entry of a pass."""
    if kind == "open":
        return "open"
    if kind == "option":
        return dice.randrange(world.stations[world.passes[p].station].antennas)
    if kind == "any":
        return dice.randint(-3, 4)
    return None


def facts_of(world):
    """All that a world tells, so that one can see whether it has changed."""
    things = (world.satellites, world.stations, world.recordings, world.passes)
    return (world.text, world.horizon, [[sorted(vars(one).items()) for one in sort] for sort in things])
