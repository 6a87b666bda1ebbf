"""Worlds so small that a test can list all their plans: those of point 33, and not larger ones."""

import itertools
import random

from downpass.worlds import World
from tests import reckoning
from tests.samples import text_of

KEPT = {}


def tiny_world(seed):
    """A world of at most 3 recordings with at most 2 options each, and at most 3 passes; every third one is roomy."""
    dice = random.Random(f"tiny {seed}")
    more = 20 if seed % 3 == 1 else 0
    horizon = dice.choice([1, 4, 8, 10]) if seed % 7 == 0 else dice.choice([12, 16, 20]) + more // 2
    satellites, stations = dice.choice([1, 1, 1, 2, 3]), dice.choice([1, 1, 1, 2, 3])
    recordings = dice.choice([0, 1, 2, 3]) if seed % 3 == 0 else 3
    passes = dice.choice([0, 1, 2, 3]) if seed % 4 == 0 else dice.choice([2, 3])
    lines = [f"horizon {horizon}"]
    for k in range(satellites):
        battery = dice.choice([6, 9, 12]) + more
        level = dice.choice([battery, battery, dice.randint(3, battery)])
        light = "".join(f" {m}" for m in sorted(dice.sample(range(horizon + 1), 2)))
        lines.append(f"satellite sat{k} store {dice.choice([4, 6, 10]) + more} battery {battery} level {level}"
                     f" reserve {dice.choice([0, 0, level // 3])} charge {dice.choice([0, 1, 1, 3])}"
                     f" settle {dice.choice([0, 0, 0, 1, 2])} light{light}")
    for k in range(stations):
        lines.append(f"station st{k} antennas {dice.choice([1, 1, 2, 3])} turn {dice.choice([0, 0, 1, 3])}")
    spans = []
    for _ in range(passes):
        first = dice.randint(min(horizon // 2, horizon - 1), horizon - 1)
        spans.append((dice.randrange(satellites), first, dice.randint(first + 1, min(first + 3, horizon))))
    for k in range(recordings):
        lines.append(recording_line(dice, k, horizon, satellites, spans))
    for k, (by, first, end) in enumerate(spans):
        lines.append(f"pass p{k} by sat{by} over st{dice.randrange(stations)} from {first} to {end}"
                     f" room {dice.choice([0, 4, 6, 9, 12]) + more} energy {dice.randint(0, 3)}"
                     f" fee {dice.choice([0, 1, 2, 7])}")
    return World.parse(text_of(lines))


def recording_line(dice, k, horizon, satellites, spans):
    """A line of a recording, which has as many starts as leave it at most 2 options."""
    by = dice.choice([dice.randrange(satellites)] + [sat for sat, _, _ in spans])
    earliest = dice.randint(0, max(0, horizon // 2 - 3))
    length = dice.randint(1, min(3, horizon - earliest))
    until = dice.choice([horizon, horizon, horizon, horizon, dice.randint(0, horizon)])
    latest = earliest
    while latest + 1 + length <= horizon and latest - earliest < 3:
        starts = range(earliest, latest + 2)
        fitting = [start for start in starts for sat, first, end in spans
                   if sat == by and start + length <= first and end <= until]
        if len(fitting) > 2:
            break
        latest += 1
    while earliest < latest and dice.random() < 0.3:
        latest -= 1
    ends = sorted(end for sat, first, end in spans if sat == by and earliest + length <= first and end <= until)
    if len(ends) > 2:
        # Two spans may end at the third one's end; then the deadline leaves out all of these.
        until = ends[2] - 1
    return (f"recording r{k} by sat{by} from {earliest} to {latest} length {length}"
            f" size {dice.randint(0, 5)} energy {dice.randint(0, 5)} worth {dice.choice([1, 2, 3, 9])}"
            f" rank {dice.choice([1, 2, 2, 3])} until {until}")


def all_plans(world):
    """The list of all the plans of options and antennas."""
    made = [[None] + pairs for pairs in reckoning.options_of(world)]
    taken = [[None] + list(range(world.stations[chance.station].antennas)) for chance in world.passes]
    return [(one, other) for one in itertools.product(*made) for other in itertools.product(*taken)]


def kept_plans(world):
    """The list of all the plans that keep the rules, by the second reckoning."""
    if world.text not in KEPT:
        KEPT[world.text] = [plan for plan in all_plans(world) if reckoning.breaches_of(world, plan) == []]
    return list(KEPT[world.text])


def is_of(plan, case):
    """True if a plan belongs to a case."""
    return all(theirs == "open" or ours == theirs for ours, theirs in zip(plan[0] + plan[1], case[0] + case[1]))


def greatest_weight(world, case):
    """The greatest weight of the plans of a case that keep the rules, or None if there is none."""
    return max([reckoning.weight_of(world, plan) for plan in kept_plans(world) if is_of(plan, case)], default=None)


def tiny_case(dice, world, opens=0.4):
    """A case of options and antennas; the chance that an entry is open is told."""
    made = [[None] + pairs + pairs for pairs in reckoning.options_of(world)]
    taken = [[None, 0] + list(range(world.stations[chance.station].antennas)) for chance in world.passes]
    return (tuple("open" if dice.random() < opens else dice.choice(ways) for ways in made),
            tuple("open" if dice.random() < opens else dice.choice(ways) for ways in taken))
