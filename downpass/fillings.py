"""Filling a case up to a plan, without looking back at what is decided."""

from downpass.plans import OPEN, is_filled, with_made, with_taken
from downpass.rules import first_breach


def filled(board, case, wishes):
    """A plan that belongs to a case without a breach and keeps the rules, or None if none was found.

    wishes has for each thing a list of its choices, to be tried in this order.
    """
    made, taken = case
    for entry in made:
        if is_filled(entry) and case[1][entry[1]] == OPEN:
            case = with_sending_pass(board, case, entry[1], wishes)
            if case is None:
                return None
    gains = board.measure.gains
    for r in sorted(range(len(made)), key=lambda number: -gains[number]):
        if made[r] == OPEN:
            case = with_recording(board, case, r, wishes)
    for p in range(len(taken)):
        if case[1][p] == OPEN:
            case = with_idle_pass(board, case, p, wishes)
    return case


def with_sending_pass(board, case, p, wishes):
    """The case with an open pass taken by the first antenna for which there is no breach; otherwise None."""
    for antenna in wishes[board.measure.many_made + p]:
        if antenna is not None:
            found = with_taken(case, p, antenna)
            if first_breach(board.world, found) is None:
                return found
    return None


def with_recording(board, case, r, wishes):
    """The case with an open recording made by the first option for which there is no breach, or not made."""
    for option in wishes[r]:
        if option is not None:
            found = with_option(board, case, r, option, wishes)
            if found is not None:
                return found
    return with_made(case, r, None)


def with_option(board, case, r, option, wishes):
    """The case with a recording made by an option and its pass taken, or None if there is a breach then."""
    found = with_made(case, r, option)
    _, p = option
    if first_breach(board.world, found) is not None:
        return None
    if found[1][p] == OPEN:
        return with_sending_pass(board, found, p, wishes)
    return found


def with_idle_pass(board, case, p, wishes):
    """The case with an open pass that need not be taken: taken where this is worth more than to leave it out."""
    thing = board.measure.many_made + p
    idle = board.measure.entry_worth(thing, None)
    for antenna in wishes[thing]:
        if antenna is not None and board.measure.entry_worth(thing, antenna) > idle:
            found = with_taken(case, p, antenna)
            if first_breach(board.world, found) is None:
                return found
    return with_taken(case, p, None)
