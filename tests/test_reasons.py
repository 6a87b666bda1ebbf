"""Points 2, 3 and 38 to 40: option cases, and why a plan does not make a recording."""

import inspect
import random
import unittest
from unittest import mock

from downpass.cases import open_case
from downpass.errors import BadPlan
from downpass.hunts import Hunt
from downpass.papers import closes
from downpass.planning import lowest, search, search_case
from downpass.plans import check_case, empty_plan, with_made
from downpass.reasons import explains, option_cases, reason
from downpass.worlds import World, options
from downpass.worth import weight_of
from tests import paper_reckoning, reckoning
from tests.made_prices import spoiled
from tests.made_worlds import facts_of, made_world
from tests.paper_reckoning import choices_in, closes_of
from tests.samples import text_of, world_lines
from tests.small_worlds import chance, recording, satellite, station, world_of
from tests.test_goals import BAD_PLANS
from tests.test_planning import hard_world
from tests.tiny_worlds import all_plans, kept_plans, tiny_world

FREE = ("bound", 1, ())
WORDS = ["made", "no option", "never", "as good", "worse", "unknown"]


def reason_world():
    """A world with two recordings of one satellite that shut each other out, one without options, and a pass."""
    return world_of(
        satellite(), station(), recording("ice", 4, 5, 6, worth=9), recording("sea", 4, 4, 6, worth=4),
        recording("fog", 4, 4, 6, until=3), chance("p", 11, 20, fee=1), chance("q", 30, 40))


def holds(world, plan, r, told):
    """True if told is a reason, by the second reckoning; asked of what may be anything."""
    if not isinstance(told, tuple) or len(told) == 0:
        return False
    if plan[0][r] is not None:
        return told == ("made",)
    pairs = reckoning.options_of(world)[r]
    if told == ("no option",):
        return pairs == []
    word = told[0]
    if word == "as good" and len(told) == 2:
        other = told[1]
        return (other[0][r] is not None and reckoning.breaches_of(world, other) == []
                and reckoning.weight_of(world, other) >= reckoning.weight_of(world, plan))
    if word == "never" and len(told) == 2:
        return shown(world, r, paper_reckoning.lowest_of(world), told[1])
    if word in ("worse", "unknown") and len(told) == 3 and isinstance(told[1], int):
        less = told[1] < reckoning.weight_of(world, plan)
        return less == (word == "worse") and shown(world, r, told[1], told[2])
    return False


def shown(world, r, weight, papers):
    """True if there is one paper for each option case, in order, that closes it for the weight."""
    cases = paper_reckoning.ways_of(world, open_case(world), "recording", r)[1:]
    if not isinstance(papers, tuple) or len(papers) != len(cases):
        return False
    return all(closes_of(world, case, weight, paper) for case, paper in zip(cases, papers))


def is_true(world, plan, r, told):
    """True if what a reason says holds by the list of all plans."""
    made = [reckoning.weight_of(world, one) for one in kept_plans(world) if one[0][r] is not None]
    if told[0] == "made":
        return plan[0][r] is not None
    if told[0] == "no option":
        return reckoning.options_of(world)[r] == []
    if told[0] == "never":
        return made == []
    if told[0] == "as good":
        return told[1] in kept_plans(world) and told[1][0][r] is not None and max(made) >= weight_of(world, plan)
    if told[0] == "worse":
        return all(weight <= told[1] < weight_of(world, plan) for weight in made)
    return all(weight <= told[1] for weight in made)


class OptionCases(unittest.TestCase):

    def test_in_the_order_of_the_options(self):
        world = reason_world()
        passes = ("open", "open")
        self.assertEqual(option_cases(world, 0), [
            (((4, 0), "open", "open"), passes), (((4, 1), "open", "open"), passes),
            (((5, 0), "open", "open"), passes), (((5, 1), "open", "open"), passes)])
        self.assertEqual(option_cases(world, 1), [
            (("open", (4, 0), "open"), passes), (("open", (4, 1), "open"), passes)])
        self.assertEqual(option_cases(world, 2), [])

    def test_made_worlds(self):
        for seed in range(150):
            world = made_world(seed)
            pairs = reckoning.options_of(world)
            for r in range(len(world.recordings)):
                cases = option_cases(world, r)
                self.assertIs(cases.__class__, list)
                self.assertEqual(cases, [with_made(open_case(world), r, pair) for pair in pairs[r]])
                for case in cases:
                    self.assertIsNone(check_case(world, case))

    def test_each_list_is_new(self):
        world = reason_world()
        first = option_cases(world, 0)
        kept = list(first)
        first.append(None)
        first.reverse()
        self.assertEqual(option_cases(world, 0), kept)


class Explains(unittest.TestCase):

    def setUp(self):
        self.world = reason_world()
        self.best = (((4, 0), None, None), (0, None))
        self.free = (((4, 1), None, None), (None, 0))
        self.sea = ((None, (4, 1), None), (None, 0))
        self.none = empty_plan(self.world)
        self.weights = [9 * 15 ** 3, 4 * 15 ** 3]
        busy = ("breach", ("busy", ("recording", 0), ("recording", 1)))
        self.papers = tuple([("recording", 0, (FREE, busy, busy, busy, busy))] * 2)

    def assert_told(self, plan, r, told, due):
        """Whether told explains why the plan does not make the recording."""
        self.assertIs(explains(self.world, plan, r, told), due, (plan, r, told))
        self.assertIs(holds(self.world, plan, r, told), due)

    def test_made(self):
        for entry in ((4, 0), (5, 1), (99, 0), (-2, 1)):
            plan = ((entry, None, None), (0, 0))
            for told in [("no option",), ("never", ()), ("never", (FREE,) * 4), ("as good", self.best), ("made", 0),
                         ("worse", 10 ** 9, (FREE,) * 4), ("unknown", 10 ** 9, (FREE,) * 4), (), ("Made",)]:
                self.assert_told(plan, 0, told, False)
            self.assert_told(plan, 0, ("made",), True)
            self.assert_told(plan, 1, ("made",), False)
            self.assert_told(plan, 2, ("made",), False)

    def test_no_option(self):
        for plan in (self.best, self.none, ((None, None, None), (0, 9))):
            self.assert_told(plan, 2, ("no option",), True)
            self.assert_told(plan, 1, ("no option",), False)
            self.assert_told(plan, 2, ("no option", ()), False)
            self.assert_told(plan, 2, ("no options",), False)
        self.assert_told(((None, None, (4, 0)), (0, None)), 2, ("no option",), False)
        # Nothing is to be closed where there is no option case.
        self.assert_told(self.none, 2, ("never", ()), True)
        self.assert_told(self.none, 2, ("never", (FREE,)), False)
        self.assert_told(self.none, 2, ("unknown", 0, ()), True)
        self.assert_told(self.none, 2, ("worse", -1, ()), True)

    def test_as_good(self):
        weight = weight_of(self.world, self.sea)
        self.assert_told(self.none, 1, ("as good", self.sea), True)
        self.assert_told(self.none, 0, ("as good", self.best), True)
        self.assert_told(self.sea, 0, ("as good", self.best), True)
        self.assert_told(self.best, 1, ("as good", self.sea), False)
        self.assert_told(self.none, 0, ("as good", self.sea), False)
        # Just as good, and as good but for a fee.
        same = world_of(satellite(), station(), recording("ice", 4, 4, 6), recording("sea", 4, 4, 6),
                        chance("p", 11, 20, fee=1), chance("q", 30, 40))
        one, dear = (((4, 1), None), (None, 0)), (((4, 0), None), (0, None))
        other = ((None, (4, 1)), (None, 0))
        self.assertEqual(weight_of(same, one), weight_of(same, other))
        self.assertIs(explains(same, one, 1, ("as good", other)), True)
        self.assertIs(explains(same, dear, 1, ("as good", other)), True)
        self.assertIs(explains(same, other, 0, ("as good", dear)), False)
        # It would be better, but it breaks a rule.
        for broken in [((None, (4, 1), None), (0, None)), ((None, (9, 1), None), (None, 0)),
                       (((4, 1), (4, 1), None), (None, 0)), ((None, (4, 1), None), (None, 1))]:
            self.assertGreater(weight_of(self.world, broken), 0)
            self.assert_told(self.none, 1, ("as good", broken), False)
        self.assertEqual(weight, self.weights[1])
        for told in [("as good",), ("as good", self.sea, self.sea), ("as good", self.sea, ())]:
            self.assert_told(self.none, 1, told, False)

    def test_the_other_plan_of_as_good(self):
        for plan in BAD_PLANS + [(), None, "made", (((4, 1), None, None), (None,))]:
            for mine in (self.none, self.best):
                for r in range(3):
                    with self.assertRaises(BadPlan, msg=plan):
                        explains(self.world, mine, r, ("as good", plan))

    def test_what_is_no_plan(self):
        for plan in BAD_PLANS:
            for told in [("made",), ("no option",), ("never", ()), ("as good", self.best), (), ("worse", 0, ())]:
                with self.assertRaises(BadPlan, msg=plan):
                    explains(self.world, plan, 0, told)

    def test_worse_and_unknown(self):
        weight = weight_of(self.world, self.best)
        need = self.weights[1]
        for upper in (need - 1, need, need + 1, weight - 1, weight, weight + 1, 10 ** 20, -10 ** 20):
            self.assert_told(self.best, 1, ("worse", upper, self.papers), need <= upper < weight)
            self.assert_told(self.best, 1, ("unknown", upper, self.papers), upper >= weight)
        for upper in (need - 1, need, need + 1):
            self.assert_told(self.none, 1, ("worse", upper, self.papers), False)
            self.assert_told(self.none, 1, ("unknown", upper, self.papers), upper >= need)

    def test_papers_too_few_too_many_and_in_another_order(self):
        upper = self.weights[1]
        good = self.papers[0]
        for papers in [(), (good,), (good,) * 3, [good] * 2, (good, FREE), (FREE, good), None, good, FREE, "ab"]:
            self.assert_told(self.best, 1, ("worse", upper, papers), False)
            self.assert_told(self.best, 1, ("never", papers), False)
        # Two cases, both of which a breach of the store closes.
        world = world_of(satellite(store=5), station(), recording("ice", 4, 4, 6, size=6),
                         recording("sea", 4, 4, 6, worth=2), chance("p", 10, 20), chance("q", 20, 30))
        stores = (("breach", ("store", 0, 4)),) * 2
        busy = ("breach", ("busy", ("recording", 0), ("pass", 0)))
        plan = ((None, (4, 1)), (None, 0))
        for papers, due in [(stores, True), (stores + stores, False), (stores[:1], False), ((stores[0], busy), False),
                            ((busy, stores[0]), False)]:
            self.assertIs(explains(world, plan, 0, ("never", papers)), due)

    def test_the_order_of_the_papers(self):
        lines = [recording("ice", 4, 4, 6, size=9), chance("p", 12, 20, room=5), chance("q", 30, 40, room=8)]
        world = world_of(satellite(), station(), *lines)
        first, second = ("breach", ("antenna", 0)), ("breach", ("antenna", 1))
        rooms = [("pass", p, (("breach", ("untaken", 0)), ("breach", ("room", p)))) for p in range(2)]
        plan = empty_plan(world)
        for papers, due in [((rooms[0], rooms[1]), True), ((rooms[1], rooms[0]), False), ((rooms[0], rooms[0]), False),
                            ((rooms[1], rooms[1]), False), ((first, second), False)]:
            self.assertIs(explains(world, plan, 0, ("never", papers)), due)
            self.assertIs(explains(world, plan, 0, ("unknown", 0, papers)), due)
            self.assertIs(explains(world, plan, 0, ("worse", -1, papers)), due)

    def test_never_is_for_the_lowest_weight(self):
        world = world_of(satellite(), station(), recording("ice", 4, 4, 6), chance("p", 12, 20, fee=5))
        plan = empty_plan(world)
        least = lowest(world)
        self.assertEqual(least, -6)
        # The bound is the weight less what is paid for the room, whose row has no left side above its right one.
        for price in range(3000, 3100, 7):
            prices = ("bound", 1, ((("satellite", 0, 4), price), (("satellite", 0, 5), price)))
            due = closes(world, option_cases(world, 0)[0], least, prices)
            self.assertIs(explains(world, plan, 0, ("never", (prices,))), due)
        self.assertIs(explains(world, plan, 0, ("never", (FREE,))), False)

    def test_other_forms(self):
        for told in [(), ("",), ("never",), ("worse",), ("unknown",), ("worse", 0), ("never", self.papers, self.papers),
                     ("worse", self.weights[1], self.papers, ()), ("worse", self.papers), ("unknown", self.papers),
                     ("worse", None, self.papers), ("unknown", None, self.papers), ("unknown", "9", self.papers),
                     ("better", self.weights[1], self.papers), (None, 10 ** 9, self.papers), ([], ()), ({}, 1, ()),
                     ("unknown", self.papers, 10 ** 9), ("worse", (), ()), ("as  good", self.sea), ("Never", ()),
                     ("made", ()), ("no option", 0), ("no option", 0, ()), (("made",),),
                     ("never", 10 ** 9, self.papers)]:
            for plan in (self.best, self.none):
                self.assertIs(explains(self.world, plan, 1, told), False, told)

    def test_an_upper_that_is_just_the_weight(self):
        weight = weight_of(self.world, self.best)
        self.assert_told(self.best, 1, ("worse", weight, (FREE, FREE)), False)
        upper = 13 * 15 ** 3
        self.assert_told(self.best, 1, ("unknown", upper, (FREE, FREE)), True)
        self.assert_told(self.best, 1, ("unknown", upper - 1, (FREE, FREE)), False)
        # A plan that is worth as much as the upper that is shown.
        plan = ((None, None, (4, 0)), (None, None))
        self.assertEqual(weight_of(self.world, plan), 15 ** 3)
        for upper in (15 ** 3 - 1, 15 ** 3, 15 ** 3 + 1):
            self.assertIs(explains(self.world, plan, 1, ("worse", upper, self.papers)), False)


class Reasons(unittest.TestCase):

    def assert_reason(self, world, plan, r, told):
        """The reason is a tuple that holds."""
        self.assertIs(told.__class__, tuple)
        self.assertIn(told[0], WORDS)
        self.assertIs(explains(world, plan, r, told), True, (world.text, plan, r, told))

    def test_tiny_worlds(self):
        seen = {word: 0 for word in WORDS}
        for seed in range(120):
            world = tiny_world(seed)
            plans = kept_plans(world)
            dice = random.Random(seed)
            for plan in dice.sample(plans, min(len(plans), 3)) + [search(world, effort=50)[0]]:
                for r in range(len(world.recordings)):
                    for effort in (0, 1, 2, 9, 5000):
                        told = reason(world, plan, r, effort=effort)
                        self.assert_reason(world, plan, r, told)
                        self.assertTrue(is_true(world, plan, r, told), (world.text, plan, r, told))
                        self.assertEqual(told, self.first_reason(world, plan, r, effort))
                        seen[told[0]] += 1
                    # Searched to the end, only what cannot be told otherwise is left open.
                    self.assertNotEqual(told[0], "unknown")
        self.assertGreater(min(seen.values()), 20, seen)

    def first_reason(self, world, plan, r, effort):
        """The first reason, in the order of the document, that the searches of the option cases give."""
        if plan[0][r] is not None:
            return ("made",)
        cases = option_cases(world, r)
        if not cases:
            return ("no option",)
        found = [search_case(world, case, effort=min(effort, 5000) // len(cases)) for case in cases]
        for other, _, _ in found:
            if other is not None and weight_of(world, other) >= weight_of(world, plan):
                return ("as good", other)
        uppers, papers = [upper for _, upper, _ in found], tuple(paper for _, _, paper in found)
        if max(uppers) == lowest(world):
            return ("never", papers)
        return ("worse" if max(uppers) < weight_of(world, plan) else "unknown", max(uppers), papers)

    def test_made_worlds(self):
        for seed in range(80):
            world = made_world(seed)
            plan = search(world, effort=20)[0]
            for r in range(len(world.recordings)):
                for effort in (0, 1, 30):
                    told = reason(world, plan, r, effort=effort)
                    self.assert_reason(world, plan, r, told)
                    self.assertEqual(told, self.first_reason(world, plan, r, effort))
                    if told[0] in ("never", "worse", "unknown"):
                        self.assertLessEqual(sum(choices_in(paper) for paper in told[-1]), effort)

    def test_the_effort_is_shared(self):
        lines = [chance(f"p{k}", 10 + 2 * k, 11 + 2 * k, fee=k) for k in range(10)]
        world = world_of(satellite(), station(antennas=3), recording("ice", 0, 0, 1, worth=9),
                         recording("sea", 0, 0, 1), *lines)
        plan = search(world, effort=300)[0]
        self.assertEqual(plan[0][1], None)
        # There are ten option cases; more than 5000 count as 5000.
        for effort, due in [(0, 0), (1, 0), (9, 0), (10, 1), (19, 1), (60, 6), (4999, 499), (5000, 500), (5009, 500),
                            (5010, 500), (10 ** 9, 500)]:
            with mock.patch.object(Hunt, "run", autospec=True, side_effect=Hunt.run) as run:
                told = reason(world, plan, 1, effort=effort)
            self.assert_reason(world, plan, 1, told)
            self.assertEqual([call.args[1] for call in run.call_args_list], [due] * 10)
            self.assertEqual(told[0], "worse")

    def test_an_upper_that_is_just_the_weight(self):
        world = reason_world()
        plan = (((4, 1), None, None), (None, 0))
        weight = weight_of(world, plan)
        # What the searches of the two option cases give, and the word and the upper that are told then.
        for uppers, word in [((weight - 1, weight - 2), "worse"), ((weight - 1, weight), "unknown"),
                             ((weight, 0), "unknown"), ((weight + 1, weight - 1), "unknown"),
                             ((lowest(world), lowest(world)), "never"), ((lowest(world) + 1, lowest(world)), "worse")]:
            found = [(None, upper, (str(k),)) for k, upper in enumerate(uppers)]
            with mock.patch("downpass.reasons.hunt", side_effect=found):
                told = reason(world, plan, 1, effort=7)
            self.assertEqual(told[0], word)
            self.assertEqual(told[1:], ((("0",), ("1",)),) if word == "never" else (max(uppers), (("0",), ("1",))))

    def test_the_first_option_case_with_a_plan_that_is_as_good(self):
        world = reason_world()
        plan = (((4, 1), None, None), (None, 0))
        worse, good = empty_plan(world), (((5, 1), None, None), (None, 0))
        for plans, due in [((good, None), good), ((None, good), good), ((worse, good), good), ((worse, None), None)]:
            found = [(one, 10 ** 9, ()) for one in plans]
            with mock.patch("downpass.reasons.hunt", side_effect=found):
                told = reason(world, plan, 1)
            self.assertEqual(told, ("as good", due) if due else ("unknown", 10 ** 9, ((), ())))

    def test_a_hard_world(self):
        world = hard_world()
        plan = empty_plan(world)
        self.assertGreater(len(options(world, 0)), 20)
        for effort in (0, 3, 500):
            self.assertEqual(reason(world, plan, 0, effort=effort)[0], "as good")
        best = search(world, effort=100)[0]
        for r, entry in enumerate(best[0]):
            told = reason(world, best, r, effort=0)
            self.assert_reason(world, best, r, told)
            self.assertEqual(told == ("made",), entry is not None)

    def test_the_default_effort_is_200(self):
        effort = inspect.signature(reason).parameters["effort"]
        self.assertEqual((effort.default, effort.kind), (200, effort.KEYWORD_ONLY))
        for seed in range(15):
            world = made_world(seed)
            plan = search(world, effort=5)[0]
            for r in range(len(world.recordings)):
                self.assertEqual(reason(world, plan, r), reason(world, plan, r, effort=200))

    def test_recordings_without_options(self):
        for passes in (0, 1):
            world = World.parse(text_of(world_lines(1, 1, 2, 0) if passes == 0 else world_lines(2, 1, 2, 1)))
            told = reason(world, empty_plan(world), 1, effort=5)
            self.assertEqual(told, ("no option",))
            self.assertIs(explains(world, empty_plan(world), 1, told), True)

    def test_what_is_no_plan(self):
        world = world_of(satellite(), station(), recording("ice", 4, 5, 6), chance("p", 11, 20))
        for plan in BAD_PLANS:
            for effort in (0, 7):
                with self.assertRaises(BadPlan, msg=plan):
                    reason(world, plan, 0, effort=effort)

    def test_reasons_by_anybody_must_hold(self):
        seen = {True: 0, False: 0}
        for seed in range(100):
            world = tiny_world(seed)
            dice = random.Random(seed)
            plans = kept_plans(world)
            plan = dice.choice(plans)
            for r in range(len(world.recordings)):
                told = reason(world, plan, r, effort=dice.choice([0, 3, 100]))
                for _ in range(6):
                    other = spoiled_reason(dice, world, plans, told)
                    due = holds(world, plan, r, other)
                    self.assertIs(explains(world, plan, r, other), due, (world.text, plan, r, other))
                    self.assertTrue(not due or is_true(world, plan, r, other), (world.text, plan, r, other))
                    seen[due] += 1
        self.assertGreater(min(seen.values()), 100, seen)


def spoiled_reason(dice, world, plans, told):
    """A reason with one place of it turned, left out or doubled; what it names as good has the form of a plan."""
    way = dice.randrange(7)
    if way == 0:
        return dice.choice([("made",), ("no option",), (), told + (0,), told + told[-1:], told[:-1]])
    if way == 1:
        return ("as good", dice.choice(plans + all_plans(world)[:50]))
    if told[0] in ("made", "no option", "as good"):
        return told
    papers = told[-1]
    if way == 2:
        return (dice.choice(["never", "worse", "unknown"]), *told[1:])
    if way == 3 and told[0] != "never":
        return (told[0], told[1] + dice.choice([-1, 1, 10 ** 6, -10 ** 6]), papers)
    if way == 4:
        return (*told[:-1], dice.choice([papers[::-1], papers[1:], papers + papers[:1], papers[:-1], list(papers)]))
    at = dice.randrange(len(papers))
    return (*told[:-1], papers[:at] + (spoiled(dice, papers[at]),) + papers[at + 1:])


class AskedAgain(unittest.TestCase):

    def test_another_world_in_between_changes_nothing(self):
        asked = []
        for seed in range(30):
            world = made_world(seed)
            plan = search(world, effort=5)[0]
            facts = facts_of(world)
            for r in range(len(world.recordings)):
                asked.append((world, plan, r, reason(world, plan, r, effort=20)))
            self.assertEqual(facts_of(world), facts)
        for world, plan, r, told in asked:
            self.assertEqual(reason(world, plan, r, effort=20), told)
            self.assertEqual(reason(World.parse(world.text), plan, r, effort=20), told)
            self.assertIs(explains(world, plan, r, told), True)


if __name__ == "__main__":
    unittest.main()
