"""Why a plan does not make a recording (points 38 to 40)."""

from downpass.boards import Board
from downpass.cases import open_case
from downpass.forms import is_integer, is_tuple_of
from downpass.hunts import MOST_EFFORT, hunt
from downpass.measures import Measure
from downpass.papers import Judge
from downpass.planning import lowest
from downpass.plans import check_plan, with_made
from downpass.rules import keeps_rules
from downpass.worlds import options
from downpass.worth import weight_of


def option_cases(world, r):
    """The list of the cases in which a recording is made by one of its options and all else is open (point 38)."""
    return [with_made(open_case(world), r, option) for option in options(world, r)]


def reason(world, plan, r, *, effort=200):
    """Why a plan that keeps the rules does not make a recording (point 40)."""
    check_plan(world, plan)
    made, _ = plan
    if made[r] is not None:
        return ("made",)
    cases = option_cases(world, r)
    if len(cases) == 0:
        return ("no option",)
    weight = weight_of(world, plan)
    board = Board(Measure(world))
    uppers = []
    papers = []
    for case in cases:
        other, upper, paper = hunt(board, lowest(world), case, min(effort, MOST_EFFORT) // len(cases))
        if other is not None and weight_of(world, other) >= weight:
            return ("as good", other)
        uppers.append(upper)
        papers.append(paper)
    if max(uppers) == lowest(world):
        return ("never", tuple(papers))
    word = "worse" if max(uppers) < weight else "unknown"
    return (word, max(uppers), tuple(papers))


def explains(world, plan, r, told):
    """True if a tuple tells why a plan does not make a recording, and this holds (point 39)."""
    check_plan(world, plan)
    if is_tuple_of(told, 2) and told[0] == "as good":
        check_plan(world, told[1])
    made, _ = plan
    if made[r] is not None:
        return told == ("made",)
    if told == ("no option",):
        return len(options(world, r)) == 0
    if is_tuple_of(told, 2) and told[0] == "as good":
        return is_as_good(world, plan, r, told[1])
    if is_tuple_of(told, 2) and told[0] == "never":
        return closes_options(world, r, lowest(world), told[1])
    return is_tuple_of(told, 3) and is_shown(world, plan, r, told)


def is_as_good(world, plan, r, other):
    """True if another plan makes the recording, keeps the rules, and is at least as good."""
    made, _ = other
    return made[r] is not None and keeps_rules(world, other) and weight_of(world, other) >= weight_of(world, plan)


def is_shown(world, plan, r, told):
    """True if what is told is "worse" or "unknown", with an upper on its side that the papers show."""
    word, upper, papers = told
    if word not in ("worse", "unknown") or not is_integer(upper):
        return False
    is_less = upper < weight_of(world, plan)
    return is_less == (word == "worse") and closes_options(world, r, upper, papers)


def closes_options(world, r, weight, papers):
    """True if there is one paper for each option case, in order, which closes it for the weight."""
    cases = option_cases(world, r)
    if not is_tuple_of(papers, len(cases)):
        return False
    judge = Judge(Measure(world))
    return all([judge.closes(case, weight, paper) for case, paper in zip(cases, papers)])
