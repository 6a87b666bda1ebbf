"""The interface: its names, where they are defined, and the names of their arguments."""

import importlib
import inspect
import unittest

FUNCTIONS = {
    "spans": ["meet(one, other)", "lengthened(span, minutes)", "has_minute(span, minute)",
              "minutes_within(spans, first, end)"],
    "worlds": ["options(world, number)", "light_minutes(satellite, first, end)"],
    "plans": ["empty_plan(world)", "check_plan(world, plan)", "check_case(world, case)",
              "with_made(case, number, entry)", "with_taken(case, number, entry)", "parse_plan(text, world)",
              "format_plan(world, plan)"],
    "flights": ["store_used(world, case, number)", "battery_levels(world, case, number)",
                "spending(world, case, number)"],
    "rules": ["case_breaches(world, case)", "breaches(world, plan)", "keeps_rules(world, plan)"],
    "worth": ["base_of(world)", "recording_weight(world, r)", "weight_of(world, plan)", "value_of(world, plan)",
              "is_better(world, plan, other)"],
    "cases": ["open_case(world)", "belongs(plan, case)", "is_complete(case)"],
    "rows": ["recording_part(world, row, r, option)", "pass_part(world, row, p)", "right_side(world, row)",
             "left_side(world, row, plan)", "check_row(world, row)"],
    "prices": ["bound(world, case, divisor, prices)"],
    "papers": ["closes(world, case, weight, paper)", "shows(world, weight, paper)", "judges(world, plan, paper)"],
    "planning": ["search(world, *, effort=200)", "lowest(world)", "search_case(world, case, *, effort=200)"],
    "reasons": ["option_cases(world, r)", "reason(world, plan, r, *, effort=200)", "explains(world, plan, r, told)"],
    "goals": ["start_case(world, goal)", "changes(goal, plan)", "goal_weight(world, goal, plan)",
              "recording_worth(world, goal, number, entry)", "pass_worth(world, goal, number, entry)",
              "recording_entries(world, case, number)", "pass_entries(world, case, number)",
              "goal_bound(world, goal, case, divisor, prices)"],
    "repairs": ["closes_goal(world, goal, case, number, paper)", "judges_repair(world, plan, lost, repaired, paper)",
                "repair(world, plan, lost, *, effort=200)"],
}
CLASSES = {
    "errors": ["PassError", "TextFault", "BadPlan", "BadRow", "BadPrice"],
    "worlds": ["World", "Satellite", "Station", "Recording", "Pass"],
    "flights": ["Flight"],
    "goals": ["Goal"],
    "desks": ["Desk"],
}
SIGNATURES = {("flights", "Flight"): "(world, case)", ("goals", "Goal"): "(world, plan, lost)",
              ("desks", "Desk"): "(world)"}
METHODS = {("worlds", "World"): ["parse", "__eq__"], ("flights", "Flight"): ["__init__", "__iter__", "__len__"],
           ("goals", "Goal"): ["__init__"], ("desks", "Desk"): ["__init__", "best_plan", "offer", "weigh", "tried"]}


def defined(module, name):
    """What a file of the package defines under this name."""
    found = getattr(importlib.import_module(f"downpass.{module}"), name)
    return found, found.__module__ == f"downpass.{module}"


class Interface(unittest.TestCase):

    def test_functions(self):
        for module in FUNCTIONS:
            for line in FUNCTIONS[module]:
                name = line.split("(")[0]
                function, here = defined(module, name)
                self.assertTrue(inspect.isfunction(function) and here, (module, name))
                self.assertEqual(name + str(inspect.signature(function)), line)

    def test_classes(self):
        for module in CLASSES:
            for name in CLASSES[module]:
                found, here = defined(module, name)
                self.assertTrue(inspect.isclass(found) and here, (module, name))

    def test_what_the_classes_are_made_of(self):
        for module, name in SIGNATURES:
            found, _ = defined(module, name)
            self.assertEqual(str(inspect.signature(found)), SIGNATURES[module, name])

    def test_methods_stand_in_their_classes(self):
        for module, name in METHODS:
            owner, _ = defined(module, name)
            for method in METHODS[module, name]:
                self.assertIn(method, vars(owner), (name, method))

    def test_the_methods_of_a_desk(self):
        desk, _ = defined("desks", "Desk")
        for name, due in [("offer", "(self, plan, paper)"), ("weigh", "(self, plan, paper)"), ("tried", "(self)")]:
            self.assertEqual(str(inspect.signature(vars(desk)[name])), due)
        self.assertIsInstance(vars(desk)["best_plan"], property)

    def test_errors_are_under_the_base_of_all_errors(self):
        base, _ = defined("errors", "PassError")
        self.assertTrue(issubclass(base, ValueError))
        for name in CLASSES["errors"]:
            error, _ = defined("errors", name)
            self.assertTrue(issubclass(error, base), name)


if __name__ == "__main__":
    unittest.main()
