"""Prices and papers made by a seeded generator, those that hold and those that do not."""

from tests import paper_reckoning, reckoning


def made_row(dice, world):
    """A row of the world, which has one."""
    minute = dice.randrange(world.horizon)
    kinds = ["room"] * (len(world.passes) > 0) + ["station"] * (len(world.stations) > 0)
    kinds += ["satellite", "store", "energy"] * (len(world.satellites) > 0)
    kinds += ["energy from"] * (len(world.satellites) > 0 and minute > 0)
    kind = dice.choice(kinds)
    if kind == "room":
        return ("room", dice.randrange(len(world.passes)))
    if kind == "station":
        return ("station", dice.randrange(len(world.stations)), minute)
    if kind == "energy from":
        return (kind, dice.randrange(len(world.satellites)), dice.randrange(minute), minute)
    return (kind, dice.randrange(len(world.satellites)), minute)


def has_rows(world):
    """True if the world has a row."""
    return len(world.satellites) + len(world.stations) > 0


def made_prices(dice, world):
    """A divisor and prices of all sizes, some of them on one row."""
    divisor = dice.choice([1, 1, 2, 3, 12, 1000])
    if not has_rows(world):
        return divisor, ()
    rows = [made_row(dice, world) for _ in range(dice.choice([0, 1, 2, 3, 5]))]
    rows += [dice.choice(rows) for _ in range(dice.choice([0, 1, 2])) if rows]
    most = max([paper_reckoning.recording_weight_of(world, r) for r in range(len(world.recordings))], default=9)
    costs = [dice.choice([0, 1, dice.randint(0, 9), divisor * dice.randint(0, most)]) for _ in rows]
    return divisor, tuple(zip(rows, costs))


def made_paper(dice, world, case, depth=2):
    """A paper for a case that could hold: the weight tells whether it does."""
    ways = [("recording", r) for r, entry in enumerate(case[0]) if entry == "open"]
    ways += [("pass", p) for p, entry in enumerate(case[1]) if entry == "open"]
    breaches = reckoning.breaches_of(world, case)
    if breaches and dice.random() < 0.8:
        return ("breach", dice.choice(breaches))
    if depth == 0 or not ways or dice.random() < 0.2:
        return ("bound", *made_prices(dice, world))
    sort, number = dice.choice(ways)
    parts = paper_reckoning.ways_of(world, case, sort, number)
    return (sort, number, tuple(made_paper(dice, world, part, depth - 1) for part in parts))


def need_of(world, case, paper, bounded=paper_reckoning.bound_of):
    """The least number for which the paper closes the case, or None if it does so for all numbers."""
    if paper[0] == "breach":
        return None
    if paper[0] == "bound":
        return -(-bounded(world, case, paper[1], paper[2]) // paper[1])
    ways = paper_reckoning.ways_of(world, case, paper[0], paper[1])
    needs = [need_of(world, way, inner, bounded) for way, inner in zip(ways, paper[2])]
    return max([need for need in needs if need is not None], default=None)


def spoiled(dice, paper):
    """The paper with one thing in it turned, left out, doubled or of another kind."""
    if paper[0] in ("recording", "pass") and dice.random() < 0.7:
        at = dice.randrange(len(paper[2]))
        inner = paper[2][:at] + (spoiled(dice, paper[2][at]),) + paper[2][at + 1:]
        return (paper[0], paper[1], inner)
    way = dice.randrange(9)
    if way == 0:
        return paper[:-1]
    if way == 1:
        return paper + (dice.choice([0, (), None, paper[-1]]),)
    if way == 2:
        return (dice.choice(["bound", "recording", "pass", "breach", "paper", "", 0, None]), *paper[1:])
    if way == 3:
        return dice.choice([(), None, "breach", 7, list(paper), (paper,)])
    if way == 4 and paper[0] in ("recording", "pass"):
        return (paper[0], dice.choice([-1, 0, 1, 2, 3, 10, None]), paper[2])
    if way <= 6 and paper[0] in ("recording", "pass"):
        at = dice.randrange(len(paper[2]))
        rest = dice.choice([paper[2][:at] + paper[2][at + 1:], paper[2] + paper[2][at:at + 1], paper[2][::-1],
                            list(paper[2]), (), None])
        return (paper[0], paper[1], rest)
    if paper[0] == "bound":
        return spoiled_bound(dice, paper)
    if paper[0] == "breach":
        breach = paper[1]
        at = dice.randrange(len(breach))
        other = dice.choice([0, 1, 2, -1, "room", "busy", "store", ("pass", 0), ("recording", 0)])
        return ("breach", dice.choice([breach[:at] + (other,) + breach[at + 1:], breach[:-1], breach + (0,), ()]))
    return paper


def spoiled_bound(dice, paper):
    """A paper of a bound with another divisor, or with prices of which one cannot be used."""
    _, divisor, prices = paper
    if dice.random() < 0.3 or not prices:
        return ("bound", dice.choice([0, -1, None, divisor + 1, "1"]), prices)
    at = dice.randrange(len(prices))
    row, price = prices[at]
    pair = dice.choice([(row, -1), (row,), (row, price, 0), (row + (0,), price), (row[:-1], price), (row, None),
                        (("light",) + row[1:], price), ((row[0], -1) + row[2:], price), row, None, (row, price + 1)])
    return ("bound", divisor, prices[:at] + (pair,) + prices[at + 1:])
