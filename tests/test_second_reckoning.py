"""Points 2 and 17 to 24 over some hundreds of made worlds, against a second reckoning."""

import itertools
import random
import unittest

from downpass.cases import belongs, is_complete, open_case
from downpass.flights import Flight, battery_levels, spending, store_used
from downpass.plans import OPEN, check_case, check_plan, with_made, with_taken
from downpass.rules import breaches, case_breaches, keeps_rules
from downpass.worlds import options
from downpass.worth import base_of, is_better, recording_weight, value_of, weight_of
from tests import reckoning
from tests.made_worlds import facts_of, made_case, made_world

MANY = 400
MADE = {}


def worlds_with(opens):
    """Pairs of a made world and a list of four made cases of it, or of four made plans."""
    # They are made once, and as all in them is tuples, each test sees the same ones.
    if opens not in MADE:
        MADE[opens] = []
        for seed in range(MANY):
            world = made_world(seed)
            pairs = reckoning.options_of(world)
            cases = [made_case(world, pairs, seed * 100 + k, opens) for k in range(4)]
            MADE[opens].append((world, cases))
    return MADE[opens]


class Worlds(unittest.TestCase):

    def test_the_made_worlds_are_of_every_kind(self):
        worlds = [made_world(seed) for seed in range(MANY)]
        for sort, most in [("satellites", 3), ("stations", 3), ("recordings", 10), ("passes", 10)]:
            self.assertEqual({len(getattr(world, sort)) for world in worlds}, set(range(most + 1)), sort)

    def test_the_made_cases_are_of_every_kind(self):
        seen = set()
        opens = set()
        for world, cases in worlds_with(True):
            for made, taken in cases:
                opens.add((made + taken).count(OPEN))
                seen |= {breach[0] for breach in reckoning.breaches_of(world, (made, taken))}
        self.assertEqual(seen, {"option", "untaken", "antenna", "room", "turn", "busy", "store", "energy"})
        self.assertLessEqual(set(range(15)), opens)

    def test_some_of_the_made_plans_keep_the_rules(self):
        kept = {0: 0, 1: 0, 2: 0, 3: 0}
        for world, plans in worlds_with(False):
            for plan in plans:
                many = min(3, len(plan[0]) - plan[0].count(None))
                if not reckoning.breaches_of(world, plan):
                    kept[many] += 1
        self.assertGreater(min(kept.values()), 5, kept)

    def test_options(self):
        for seed in range(MANY):
            world = made_world(seed)
            found = [list(options(world, r)) for r in range(len(world.recordings))]
            self.assertEqual(found, reckoning.options_of(world))


class Flights(unittest.TestCase):

    def test_store_and_levels(self):
        for world, cases in worlds_with(True):
            for case in cases:
                for s in range(len(world.satellites)):
                    used, levels = store_used(world, case, s), battery_levels(world, case, s)
                    self.assertEqual(used, reckoning.used_of(world, case, s), (world.text, case, s))
                    self.assertEqual(levels, reckoning.levels_of(world, case, s), (world.text, case, s))

    def test_spending(self):
        for world, cases in worlds_with(True):
            for case in cases:
                for s in range(len(world.satellites)):
                    spent = spending(world, case, s)
                    self.assertIs(spent.__class__, dict)
                    self.assertLessEqual(set(spent), set(range(world.horizon)))
                    found = [spent.get(minute, 0) for minute in range(world.horizon)]
                    self.assertEqual(found, reckoning.spent_of(world, case, s), (world.text, case, s))

    def test_flights(self):
        for world, cases in worlds_with(True):
            numbers = range(len(world.satellites))
            for case in cases:
                flight = Flight(world, case)
                self.assertEqual(flight.used, tuple(reckoning.used_of(world, case, s) for s in numbers))
                self.assertEqual(flight.levels, tuple(reckoning.levels_of(world, case, s) for s in numbers))
                due = reckoning.events_of(world, case)
                self.assertEqual(list(flight), due, (world.text, case))
                self.assertEqual(list(flight), due)
                self.assertEqual(len(flight), len(due))


class Rules(unittest.TestCase):

    def test_breaches_of_cases(self):
        for world, cases in worlds_with(True):
            for case in cases:
                self.assertEqual(case_breaches(world, case), reckoning.breaches_of(world, case),
                                 (world.text, case))

    def test_breaches_of_plans(self):
        for world, plans in worlds_with(False):
            for plan in plans:
                due = reckoning.breaches_of(world, plan)
                self.assertEqual(breaches(world, plan), due, (world.text, plan))
                self.assertEqual(case_breaches(world, plan), due)
                self.assertIs(keeps_rules(world, plan), due == [])

    def test_a_plan_of_a_case_with_a_breach_has_one(self):
        dice = random.Random(1)
        many = 0
        for world, cases in worlds_with(True):
            for case in cases:
                if case_breaches(world, case):
                    many += 1
                    for _ in range(5):
                        plan = completed(dice, world, case)
                        self.assertIs(belongs(plan, case), True)
                        self.assertIs(keeps_rules(world, plan), False, (world.text, case, plan))
        self.assertGreater(many, 100)

    def test_what_is_left_out_breaks_no_rule(self):
        many = 0
        for world, plans in worlds_with(False):
            for plan in plans:
                if keeps_rules(world, plan):
                    for less in with_one_left_out(plan):
                        many += 1
                        self.assertIs(keeps_rules(world, less), True, (world.text, plan, less))
        self.assertGreater(many, 100)


def completed(dice, world, case):
    """A plan of the case with something for each open entry."""
    made, taken = case
    pairs = reckoning.options_of(world)
    for r, entry in enumerate(made):
        if entry == OPEN:
            case = with_made(case, r, dice.choice([None] + pairs[r]))
    for p, entry in enumerate(taken):
        if entry == OPEN:
            case = with_taken(case, p, dice.choice([None, 0, 1, 2]))
    return case


def with_one_left_out(plan):
    """The plans in which one recording is left out, or one pass with the recordings that it sends."""
    made, taken = plan
    for r, entry in enumerate(made):
        if entry is not None:
            yield with_made(plan, r, None)
    for p, entry in enumerate(taken):
        if entry is not None:
            kept = tuple(None if pair is not None and pair[1] == p else pair for pair in made)
            yield with_taken((kept, taken), p, None)


class Worth(unittest.TestCase):

    def test_values_and_weights(self):
        for world, plans in worlds_with(False):
            base = reckoning.base_of(world)
            self.assertEqual(base_of(world), base)
            for r, recording in enumerate(world.recordings):
                self.assertEqual(recording_weight(world, r), recording.worth * base ** (4 - recording.rank))
            for plan in plans:
                self.assertEqual(value_of(world, plan), reckoning.value_of(world, plan))
                self.assertEqual(weight_of(world, plan), reckoning.weight_of(world, plan))

    def test_better_is_of_a_greater_weight(self):
        seen = set()
        for world, plans in worlds_with(False):
            for plan, other in itertools.product(plans, plans):
                due = reckoning.value_of(world, plan) > reckoning.value_of(world, other)
                self.assertIs(is_better(world, plan, other), due)
                self.assertIs(weight_of(world, plan) > weight_of(world, other), due)
                seen.add(due)
        self.assertEqual(seen, {True, False})


class Cases(unittest.TestCase):

    def test_belongs(self):
        for world, cases in worlds_with(True):
            plans = [made_case(world, reckoning.options_of(world), k, False) for k in range(3)]
            for plan, case in itertools.product(plans + cases, cases):
                due = all(theirs == "open" or theirs == ours
                          for ours, theirs in zip(plan[0] + plan[1], case[0] + case[1]))
                self.assertIs(belongs(plan, case), due)

    def test_is_complete(self):
        for world, cases in worlds_with(True):
            for case in cases:
                self.assertIs(is_complete(case), "open" not in case[0] + case[1])

    def test_open_case(self):
        for world, plans in worlds_with(False):
            case = open_case(world)
            self.assertIsNone(check_case(world, case))
            self.assertEqual((len(case[0]), len(case[1])), (len(world.recordings), len(world.passes)))
            for plan in plans:
                self.assertIsNone(check_plan(world, plan))
                self.assertIs(belongs(plan, case), True)


def all_answers(world, case, plan):
    """What all the functions of these points say."""
    satellites = [(store_used(world, case, s), battery_levels(world, case, s), spending(world, case, s))
                  for s in range(len(world.satellites))]
    flight = Flight(world, case)
    return (satellites, flight.used, flight.levels, list(flight), len(flight), case_breaches(world, case),
            breaches(world, plan), keeps_rules(world, plan), value_of(world, plan), weight_of(world, plan),
            is_better(world, plan, plan), base_of(world), open_case(world), belongs(plan, case),
            [recording_weight(world, r) for r in range(len(world.recordings))], is_complete(case))


class AskedAgain(unittest.TestCase):

    def test_another_world_in_between_changes_nothing(self):
        asked = []
        for seed in range(60):
            world = made_world(seed)
            pairs = reckoning.options_of(world)
            case, plan = made_case(world, pairs, seed), made_case(world, pairs, seed, False)
            asked.append((world, case, plan, all_answers(world, case, plan)))
        for world, case, plan, answers in asked:
            self.assertEqual(all_answers(world, case, plan), answers)

    def test_the_world_stays_as_it_is(self):
        for seed in range(60):
            world = made_world(seed)
            facts = facts_of(world)
            pairs = reckoning.options_of(world)
            all_answers(world, made_case(world, pairs, seed), made_case(world, pairs, seed, False))
            self.assertEqual(facts_of(world), facts)

    def test_a_caller_may_change_what_is_returned(self):
        for world, plans in worlds_with(False):
            plan = plans[0]
            for ask in (breaches, case_breaches):
                first = ask(world, plan)
                kept = list(first)
                first.append("something")
                first.reverse()
                self.assertEqual(ask(world, plan), kept)
            for s in range(len(world.satellites)):
                first = spending(world, plan, s)
                kept = {minute: first[minute] for minute in first}
                first[0] = -1
                first[world.horizon] = 7
                self.assertEqual(spending(world, plan, s), kept)


if __name__ == "__main__":
    unittest.main()
