"""Papers that show how much plans can be worth at most (points 29 to 31)."""

from downpass.cases import open_case
from downpass.errors import BadPlan, BadPrice, BadRow
from downpass.forms import is_integer, is_tuple_of
from downpass.measures import Measure
from downpass.plans import OPEN, check_case
from downpass.prices import Nets, check_prices
from downpass.rules import case_breaches, keeps_rules
from downpass.worth import weight_of


def closes(world, case, weight, paper):
    """True if a paper closes a case for a weight (point 29)."""
    return Judge(Measure(world)).closes(case, weight, paper)


def shows(world, weight, paper):
    """True if a paper shows a weight: it closes the case in which all is open (point 30)."""
    return closes(world, open_case(world), weight, paper)


def judges(world, plan, paper):
    """True if the judge takes a plan with a paper (point 31)."""
    return keeps_rules(world, plan) and shows(world, weight_of(world, plan), paper)


class Judge:
    """Looks at papers for what is measured by this measure."""

    def __init__(self, measure):
        self.measure = measure
        self.world = measure.world
        # The nets of prices that were used once, as many papers within a paper have the same ones.
        self.nets = {}

    def closes(self, case, number, paper):
        """True if the paper closes the case for the number."""
        try:
            check_case(self.world, case)
        except BadPlan:
            return False
        return self.closes_case(case, number, paper)

    def closes_case(self, case, number, paper):
        """True if the paper closes what has the form of a case."""
        if not isinstance(paper, tuple) or len(paper) == 0:
            return False
        word, *rest = paper
        if word == "breach":
            return len(rest) == 1 and rest[0] in case_breaches(self.world, case)
        if len(rest) != 2:
            return False
        one, other = rest
        if word == "bound":
            return self.has_bound(case, number, one, other)
        if word in ("recording", "pass"):
            return self.closes_choice(case, number, word, one, other)
        return False

    def has_bound(self, case, number, divisor, prices):
        """True if the prices can be used, and the bound of the case is at most divisor times number."""
        try:
            check_prices(self.world, divisor, prices)
        except (BadPrice, BadRow):
            return False
        key = (divisor, prices)
        if key not in self.nets:
            self.nets[key] = Nets(self.measure, divisor, prices)
        return self.nets[key].bound(case) <= divisor * number

    def closes_choice(self, case, number, word, at, papers):
        """True if the recording or the pass is open, and each way to decide it is closed by its paper."""
        made, taken = case
        entries = made if word == "recording" else taken
        if not is_integer(at) or not 0 <= at < len(entries) or entries[at] != OPEN:
            return False
        thing = at if word == "recording" else len(made) + at
        choices = self.measure.choices[thing]
        if not is_tuple_of(papers, len(choices)):
            return False
        for choice, paper in zip(choices, papers):
            if not self.closes_case(self.measure.decided(case, thing, choice), number, paper):
                return False
        return True
