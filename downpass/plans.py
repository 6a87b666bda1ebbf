"""Plans and cases, and the texts of plans (points 15 to 17)."""

from downpass.errors import BadPlan
from downpass.forms import is_tuple_of
from downpass.lines import lines_of
from downpass.worlds import names_of

OPEN = "open"
MOST_ANTENNA = 99


def empty_plan(world):
    """The plan with nothing made or taken."""
    return ((None,) * len(world.recordings), (None,) * len(world.passes))


def check_plan(world, plan):
    """Raise BadPlan if this does not have the form of a plan (point 15)."""
    check_case(world, plan)
    made, taken = plan
    if OPEN in made or OPEN in taken:
        raise BadPlan("an entry of a plan is open")


def check_case(world, case):
    """Raise BadPlan if this does not have the form of a case (point 17)."""
    if not is_tuple_of(case, 2):
        raise BadPlan("not a pair")
    made, taken = case
    if not is_tuple_of(made, len(world.recordings)):
        raise BadPlan("not one entry for each recording")
    if not is_tuple_of(taken, len(world.passes)):
        raise BadPlan("not one entry for each pass")
    if not all([is_made_entry(world, entry) for entry in made]):
        raise BadPlan("an entry of a recording that is none")
    if not all([is_taken_entry(entry) for entry in taken]):
        raise BadPlan("an entry of a pass that is none")


def is_made_entry(world, entry):
    """True if a recording can have this entry in a case; it need not be one of its options."""
    if entry is None or entry == OPEN:
        return True
    if not is_tuple_of(entry, 2):
        return False
    start, p = entry
    return isinstance(start, int) and isinstance(p, int) and 0 <= p < len(world.passes)


def is_taken_entry(entry):
    """True if a pass can have this entry in a case; its station need not have the antenna."""
    return entry is None or entry == OPEN or isinstance(entry, int)


def is_filled(entry):
    """True if an entry is neither None nor open."""
    return entry is not None and entry != OPEN


def with_made(case, number, entry):
    """The case with another entry for a recording."""
    made, taken = case
    return (with_entry(made, number, entry), taken)


def with_taken(case, number, entry):
    """The case with another entry for a pass."""
    made, taken = case
    return (made, with_entry(taken, number, entry))


def with_entry(entries, number, entry):
    """The tuple of the entries with another one in this place."""
    return entries[:number] + (entry,) + entries[number + 1:]


def format_plan(world, plan):
    """The normal text of a plan (point 16)."""
    check_plan(world, plan)
    made, taken = plan
    lines = []
    for recording, entry in zip(world.recordings, made):
        if entry is not None:
            start, p = entry
            lines.append(f"make {recording.name} at {start} with {world.passes[p].name}\n")
    for chance, antenna in zip(world.passes, taken):
        if antenna is not None:
            lines.append(f"take {chance.name} on {antenna}\n")
    return "".join(lines)


def parse_plan(text, world):
    """The plan of a text (point 16)."""
    made, taken = empty_plan(world)
    words = ("make", "take")
    # The least number that the next line of each sort may have.
    next_made = next_taken = 0
    for line in lines_of(text):
        if line.read_choice(words) == "make":
            number, entry = read_make(line, world, next_made)
            made = with_entry(made, number, entry)
            next_made = number + 1
        else:
            number, antenna = read_take(line, world, next_taken)
            taken = with_entry(taken, number, antenna)
            next_taken = number + 1
            words = ("take",)
        line.finish()
    return (made, taken)


def read_make(line, world, least):
    """Read a line `make` behind its first word: the recording's number and its entry."""
    number = line.read_known_name(names_of(world.recordings), least)
    start = line.read_field("at", 0, world.horizon)
    line.read_choice(("with",))
    p = line.read_known_name(names_of(world.passes))
    return number, (start, p)


def read_take(line, world, least):
    """Read a line `take` behind its first word: the pass's number and its entry."""
    number = line.read_known_name(names_of(world.passes), least)
    antenna = line.read_field("on", 0, MOST_ANTENNA)
    return number, antenna
