"""Points 1 to 3, 13 and 22 over the whole program: nothing is changed, and all is answered again as before."""

import random
import unittest

from downpass.cases import belongs, is_complete, open_case
from downpass.desks import Desk
from downpass.errors import BadPlan, BadPrice, BadRow, PassError, TextFault
from downpass.flights import Flight, battery_levels, spending, store_used
from downpass.goals import (Goal, changes, goal_bound, goal_weight, pass_entries, pass_worth, recording_entries,
                            recording_worth, start_case)
from downpass.papers import closes, judges, shows
from downpass.planning import lowest, search, search_case
from downpass.plans import check_plan, empty_plan, format_plan, parse_plan, with_made, with_taken
from downpass.prices import bound
from downpass.reasons import explains, option_cases, reason
from downpass.repairs import closes_goal, judges_repair, repair
from downpass.rows import check_row, left_side, pass_part, recording_part, right_side
from downpass.rules import breaches, case_breaches, keeps_rules
from downpass.worlds import World, light_minutes, options
from downpass.worth import base_of, is_better, recording_weight, value_of, weight_of
from tests import goal_reckoning, reckoning
from tests.made_prices import has_rows, made_paper, made_prices, made_row, spoiled
from tests.made_worlds import facts_of, made_case, made_world
from tests.samples import sample_world
from tests.tiny_worlds import tiny_world


def plain_answers(world, plan, case):
    """What the program tells of a world, a plan and a case."""
    satellites, recordings = range(len(world.satellites)), range(len(world.recordings))
    flight = Flight(world, case)
    return [
        [options(world, r) for r in recordings], [light_minutes(one, 0, world.horizon) for one in world.satellites],
        [store_used(world, case, s) for s in satellites], [battery_levels(world, case, s) for s in satellites],
        [spending(world, case, s) for s in satellites], list(flight), len(flight), flight.used, flight.levels,
        case_breaches(world, case), breaches(world, plan), keeps_rules(world, plan), value_of(world, plan),
        weight_of(world, plan), base_of(world), [recording_weight(world, r) for r in recordings],
        is_better(world, plan, empty_plan(world)), open_case(world), belongs(plan, case), is_complete(case),
        format_plan(world, plan), lowest(world)]


def priced_answers(world, dice, plan, case):
    """What the program tells of rows, prices and papers of a world."""
    divisor, prices = made_prices(dice, world)
    paper = made_paper(dice, world, case)
    other = spoiled(dice, paper)
    found = [bound(world, case, divisor, prices), shows(world, 10 ** 6, paper), judges(world, plan, paper)]
    found += [closes(world, case, weight, one) for weight in (-1, 0, 10 ** 9) for one in (paper, other)]
    if has_rows(world):
        row = made_row(dice, world)
        found += [check_row(world, row), right_side(world, row), left_side(world, row, plan)]
        found += [pass_part(world, row, p) for p in range(len(world.passes))]
        pairs = reckoning.options_of(world)
        found += [recording_part(world, row, r, pair) for r in range(len(pairs)) for pair in pairs[r]]
    return found


def goal_answers(world, dice, plan, case, lost):
    """What the program tells of a goal."""
    goal = Goal(world, plan, lost)
    divisor, prices = made_prices(dice, world)
    paper = made_paper(dice, world, case)
    made = [recording_worth(world, goal, r, entry) for r, entry in enumerate(plan[0])]
    taken = [pass_worth(world, goal, p, entry) for p, entry in enumerate(plan[1])]
    return [goal.plan, goal.lost, goal.factor, start_case(world, goal), changes(goal, empty_plan(world)), made, taken,
            goal_weight(world, goal, empty_plan(world)), goal_bound(world, goal, case, divisor, prices),
            [recording_entries(world, case, r) for r in range(len(made))],
            [pass_entries(world, case, p) for p in range(len(taken))],
            closes_goal(world, goal, case, 10 ** 9, paper), judges_repair(world, plan, lost, empty_plan(world), paper)]


def found_answers(world, dice, case, old, lost):
    """What the program finds for a world: plans, reasons and repairs, and what a desk says to these."""
    best, upper, paper = search(world, effort=dice.choice([0, 3, 9]))
    found = [best, upper, paper, search_case(world, case, effort=3), repair(world, old, lost, effort=3)]
    for r in range(min(2, len(world.recordings))):
        told = reason(world, best, r, effort=4)
        found += [option_cases(world, r), told, explains(world, best, r, told)]
    desk = Desk(world)
    found += [desk.weigh(best, paper), desk.plan, desk.offer(best, paper), desk.plan, desk.is_best, desk.best_plan]
    with desk.tried():
        found.append(desk.offer(empty_plan(world), paper))
    return found + [desk.plan, desk.is_best]


def answers(world, seed):
    """All that the program answers about a world, its plans and cases, asked as the seed tells."""
    dice = random.Random(f"answers {seed}")
    pairs = reckoning.options_of(world)
    plan, case = made_case(world, pairs, seed, False), made_case(world, pairs, seed + 5)
    old = goal_reckoning.made_old_plan(dice, world, [empty_plan(world)])
    lost = goal_reckoning.made_lost(dice, world)
    return (plain_answers(world, plan, case) + priced_answers(world, dice, plan, case)
            + goal_answers(world, dice, plan, case, lost) + found_answers(world, dice, case, old, lost))


def worlds(seeds):
    """Made worlds and tiny ones, each with its seed; those of whole papers with hundreds of options left out."""
    return [(seed, made_world(seed) if seed % 2 else tiny_world(seed)) for seed in range(seeds)]


class Whole(unittest.TestCase):

    def test_the_world_of_the_normal_text_gives_the_same_answers(self):
        for seed, world in worlds(60):
            facts = facts_of(world)
            twin = World.parse(world.text)
            self.assertEqual(world, twin)
            self.assertEqual(answers(world, seed), answers(twin, seed), world.text)
            self.assertEqual((facts_of(world), facts_of(twin)), (facts, facts))

    def test_asked_again_behind_other_worlds(self):
        asked = [(seed, world, answers(world, seed)) for seed, world in worlds(40)]
        for seed, world, due in asked[::-1]:
            self.assertEqual(answers(world, seed), due, world.text)

    def test_two_worlds_that_differ_in_one_number_are_not_taken_for_each_other(self):
        # Asked in turn, so that anything kept from one of them would show in the other one.
        compared = 0
        for word in ("store", "battery", "turn", "settle", "room", "fee", "worth"):
            for seed in range(1, 12, 2):
                text = made_world(seed).text
                words = text.split(" ")
                at = [k for k, one in enumerate(words) if one == word]
                if not at:
                    continue
                words[at[0] + 1] = str(int(words[at[0] + 1].split("\n")[0]) + 1) + words[at[0] + 1].lstrip("0123456789")
                try:
                    one, other = World.parse(text), World.parse(" ".join(words))
                except TextFault:
                    continue
                compared += 1
                self.assertNotEqual(one, other)
                first = (answers(one, seed), answers(other, seed))
                self.assertEqual((answers(one, seed), answers(World.parse(other.text), seed)), first)
        self.assertGreater(compared, 20)

    def test_lists_and_dicts_that_are_returned_are_new(self):
        world = sample_world()
        broken = (((4, 0),), (None,))
        for ask in (lambda: case_breaches(world, broken), lambda: breaches(world, broken),
                    lambda: option_cases(world, 0)):
            first = ask()
            kept = list(first)
            self.assertNotEqual(kept, [])
            first.append("more")
            first[0] = None
            self.assertEqual(ask(), kept)
            self.assertIsNot(ask(), ask())
        first = spending(world, broken, 0)
        kept = dict(first)
        self.assertNotEqual(kept, {})
        first.clear()
        self.assertEqual(spending(world, broken, 0), kept)

    def test_lists_that_are_passed_stay_as_they_are(self):
        for seed, world in worlds(20):
            lost = list(range(len(world.passes)))[::-1] * 2
            kept = list(lost)
            plan = empty_plan(world)
            repair(world, plan, lost, effort=2)
            judges_repair(world, plan, lost, plan, ("bound", 1, ()))
            Goal(world, plan, lost)
            self.assertEqual(lost, kept)

    def test_texts_of_what_is_found(self):
        for seed, world in worlds(40):
            best, _, _ = search(world, effort=5)
            self.assertEqual(parse_plan(format_plan(world, best), world), best)
            self.assertIsNone(check_plan(world, best))

    def test_what_is_left_out_breaks_no_rule(self):
        for seed, world in worlds(60):
            best, _, _ = search(world, effort=5)
            for r in range(len(world.recordings)):
                self.assertIs(keeps_rules(world, with_made(best, r, None)), True)
            for p in range(len(world.passes)):
                plan = with_taken(best, p, None)
                for r, entry in enumerate(best[0]):
                    plan = with_made(plan, r, None) if entry is not None and entry[1] == p else plan
                self.assertIs(keeps_rules(world, plan), True)

    def test_all_errors_are_under_one(self):
        world = sample_world()
        for error, ask in [
                (TextFault, lambda: World.parse("")), (TextFault, lambda: parse_plan("x", world)),
                (BadPlan, lambda: Flight(world, ())), (BadPlan, lambda: case_breaches(world, ((), ()))),
                (BadPlan, lambda: search_case(world, ((), ()))), (BadPlan, lambda: Goal(world, ((None,), (0,)), [1])),
                (BadPlan, lambda: Desk(world).offer(((), ()), ())), (BadRow, lambda: check_row(world, ("room", 1))),
                (BadPrice, lambda: bound(world, open_case(world), 0, ())),
                (BadRow, lambda: bound(world, open_case(world), 1, (((), -1),)))]:
            with self.assertRaises(PassError) as caught:
                ask()
            self.assertIs(caught.exception.__class__, error)
            self.assertIsInstance(caught.exception, ValueError)


if __name__ == "__main__":
    unittest.main()
