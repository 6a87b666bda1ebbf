"""The interface: its names, where they are defined, and the names of their arguments."""

import importlib
import inspect
import unittest

FUNCTIONS = {
    "spans": ["meet(one, other)", "lengthened(span, minutes)", "has_minute(span, minute)",
              "minutes_within(spans, first, end)"],
    "worlds": ["options(world, number)", "light_minutes(satellite, first, end)"],
    "plans": ["empty_plan(world)", "check_plan(world, plan)", "check_case(world, case)",
              "with_made(case, number, entry)", "with_taken(case, number, entry)", "parse_plan(text, world)",
              "format_plan(world, plan)"],
    "flights": ["store_used(world, case, number)", "battery_levels(world, case, number)",
                "spending(world, case, number)"],
    "rules": ["case_breaches(world, case)", "breaches(world, plan)", "keeps_rules(world, plan)"],
    "worth": ["base_of(world)", "recording_weight(world, r)", "weight_of(world, plan)", "value_of(world, plan)",
              "is_better(world, plan, other)"],
    "cases": ["open_case(world)", "belongs(plan, case)", "is_complete(case)"],
    "rows": ["recording_part(world, row, r, option)", "pass_part(world, row, p)", "right_side(world, row)",
             "left_side(world, row, plan)", "check_row(world, row)"],
    "prices": ["bound(world, case, divisor, prices)"],
    "papers": ["closes(world, case, weight, paper)", "shows(world, weight, paper)", "judges(world, plan, paper)"],
    "planning": ["search(world, *, effort=200)", "lowest(world)", "search_case(world, case, *, effort=200)"],
}
CLASSES = {
    "errors": ["PassError", "TextFault", "BadPlan", "BadRow", "BadPrice"],
    "worlds": ["World", "Satellite", "Station", "Recording", "Pass"],
    "flights": ["Flight"],
}


def defined(module, name):
    """What a file of the package defines under this name."""
    found = getattr(importlib.import_module(f"downpass.{module}"), name)
    return found, found.__module__ == f"downpass.{module}"


class Interface(unittest.TestCase):

    def test_functions(self):
        for module in FUNCTIONS:
            for line in FUNCTIONS[module]:
                name = line.split("(")[0]
                function, here = defined(module, name)
                self.assertTrue(inspect.isfunction(function) and here, (module, name))
                self.assertEqual(name + str(inspect.signature(function)), line)

    def test_classes(self):
        for module in CLASSES:
            for name in CLASSES[module]:
                found, here = defined(module, name)
                self.assertTrue(inspect.isclass(found) and here, (module, name))

    def test_what_is_made_of_a_world_and_a_case(self):
        flight, _ = defined("flights", "Flight")
        self.assertEqual(str(inspect.signature(flight)), "(world, case)")

    def test_methods_stand_in_their_classes(self):
        world, _ = defined("worlds", "World")
        flight, _ = defined("flights", "Flight")
        for owner, names in [(world, ["parse", "__eq__"]), (flight, ["__init__", "__iter__", "__len__"])]:
            for name in names:
                self.assertIn(name, vars(owner))


if __name__ == "__main__":
    unittest.main()
