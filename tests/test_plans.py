"""Points 2, 15 and 17: plans and cases."""

import unittest

from downpass.errors import BadPlan
from downpass.plans import (
    OPEN, check_case, check_plan, empty_plan, format_plan, parse_plan, with_made, with_taken,
)
from downpass.worlds import World
from tests.samples import sample_world, text_of, world_lines


def world_of(recordings, passes):
    """A world with so many recordings and passes."""
    return World.parse(text_of(world_lines(1, 1, recordings, passes)))


class EmptyPlan(unittest.TestCase):

    def test_for_every_number_of_recordings_and_passes(self):
        for recordings in range(11):
            for passes in range(11):
                world = world_of(recordings, passes)
                plan = empty_plan(world)
                self.assertEqual(plan, ((None,) * recordings, (None,) * passes))
                self.assertIsNone(check_plan(world, plan))
                self.assertIsNone(check_case(world, plan))

    def test_it_is_made_of_tuples(self):
        plan = empty_plan(sample_world())
        self.assertEqual([part.__class__ for part in (plan, *plan)], [tuple] * 3)


class Checks(unittest.TestCase):

    def setUp(self):
        self.world = world_of(2, 3)

    def assert_plan(self, plan):
        self.assertIsNone(check_plan(self.world, plan))
        self.assertIsNone(check_case(self.world, plan))

    def assert_neither(self, pair):
        for check in (check_plan, check_case, format_plan):
            with self.subTest(check=check, pair=pair), self.assertRaises(BadPlan):
                check(self.world, pair)

    def assert_case_only(self, case):
        self.assertIsNone(check_case(self.world, case))
        for check in (check_plan, format_plan):
            with self.subTest(check=check, case=case), self.assertRaises(BadPlan):
                check(self.world, case)

    def test_open_is_a_text(self):
        self.assertEqual(OPEN, "open")

    def test_plans(self):
        self.assert_plan(((None, None), (None, None, None)))
        self.assert_plan((((0, 0), None), (0, None, None)))
        self.assert_plan((((0, 2), (2, 1)), (1, 0, 1)))

    def test_plans_that_break_the_rules(self):
        # A start that is none of the recording, and antennas that the station does not have.
        self.assert_plan((((59, 0), (60, 2)), (2, 99, 7)))
        # Somewhat beyond what the text of a plan can tell.
        self.assert_plan((((61, 0), (-1, 2)), (100, -1, 1000)))

    def test_an_entry_too_few_or_too_many(self):
        for made in ((), (None,), ((0, 0),), (None, None, None), ((0, 0), (0, 0), (0, 0))):
            self.assert_neither((made, (None, None, None)))
        for taken in ((), (None, None), (0, 0), (None, None, None, None), (0, 0, 0, 0)):
            self.assert_neither(((None, None), taken))
        self.assert_neither(((None, None, None), (None, None)))
        self.assert_neither(((OPEN,), (OPEN, OPEN, OPEN)))
        self.assert_neither(((OPEN, OPEN), (OPEN, OPEN)))
        self.assert_neither(((OPEN, OPEN, OPEN), (OPEN, OPEN, OPEN)))
        self.assert_neither(((OPEN, OPEN), (OPEN, OPEN, OPEN, OPEN)))

    def test_a_world_without_recordings_or_passes(self):
        world = world_of(0, 0)
        self.assertIsNone(check_plan(world, ((), ())))
        self.assertIsNone(check_case(world, ((), ())))
        for pair in (((None,), ()), ((), (None,)), ((OPEN,), ()), ((), (OPEN,)), (((0, 0),), ())):
            for check in (check_plan, check_case):
                with self.assertRaises(BadPlan):
                    check(world, pair)

    def test_a_pass_that_there_is_not(self):
        for p in (3, 4, 10, -1, -3, -4):
            self.assert_neither((((0, p), None), (None, None, None)))
            self.assert_neither(((None, (0, p)), (None, None, None)))
            self.assert_neither((((0, 0), (0, p)), (0, 0, 0)))
            self.assert_neither(((OPEN, (0, p)), (OPEN, OPEN, OPEN)))

    def test_no_pass_at_all(self):
        world = world_of(1, 0)
        for check in (check_plan, check_case):
            with self.assertRaises(BadPlan):
                check(world, (((0, 0),), ()))

    def test_an_open_entry(self):
        self.assert_case_only(((OPEN, None), (None, None, None)))
        self.assert_case_only(((None, OPEN), (None, None, None)))
        self.assert_case_only(((None, None), (OPEN, None, None)))
        self.assert_case_only(((None, None), (None, None, OPEN)))
        self.assert_case_only((((0, 0), OPEN), (OPEN, 1, None)))
        self.assert_case_only(((OPEN, OPEN), (OPEN, OPEN, OPEN)))

    def test_the_world_that_is_asked_counts(self):
        plan = (((0, 2), None), (None, None, None))
        self.assert_plan(plan)
        with self.assertRaises(BadPlan):
            check_plan(world_of(2, 2), plan)
        self.assert_plan(plan)


class Changed(unittest.TestCase):

    def test_with_made(self):
        case = (((0, 0), OPEN, None), (1, OPEN))
        self.assertEqual(with_made(case, 0, None), ((None, OPEN, None), (1, OPEN)))
        self.assertEqual(with_made(case, 1, (5, 1)), (((0, 0), (5, 1), None), (1, OPEN)))
        self.assertEqual(with_made(case, 2, OPEN), (((0, 0), OPEN, OPEN), (1, OPEN)))
        self.assertEqual(case, (((0, 0), OPEN, None), (1, OPEN)))

    def test_with_taken(self):
        case = ((OPEN, None), (1, OPEN, None))
        self.assertEqual(with_taken(case, 0, None), ((OPEN, None), (None, OPEN, None)))
        self.assertEqual(with_taken(case, 1, 0), ((OPEN, None), (1, 0, None)))
        self.assertEqual(with_taken(case, 2, OPEN), ((OPEN, None), (1, OPEN, OPEN)))
        self.assertEqual(case, ((OPEN, None), (1, OPEN, None)))

    def test_each_entry_alone(self):
        for number in range(10):
            plan = empty_plan(world_of(10, 10))
            made, taken = with_made(plan, number, (3, 4))
            self.assertEqual([k for k in range(10) if made[k] == (3, 4)], [number])
            self.assertEqual((len(made), taken), (10, plan[1]))
            made, taken = with_taken(plan, number, 2)
            self.assertEqual([k for k in range(10) if taken[k] == 2], [number])
            self.assertEqual((len(taken), made), (10, plan[0]))

    def test_they_are_tuples(self):
        case = ((OPEN,), (OPEN,))
        for changed in (with_made(case, 0, None), with_taken(case, 0, None)):
            self.assertEqual([part.__class__ for part in (changed, *changed)], [tuple] * 3)


class AskedAgain(unittest.TestCase):

    def test_another_world_in_between_changes_nothing(self):
        world, other = sample_world(), world_of(3, 4)
        text = "make ice at 4 with p\ntake p on 0\n"
        plan = parse_plan(text, world)
        self.assertEqual(parse_plan("take p3 on 1\n", other)[1], (None, None, None, 1))
        self.assertEqual(empty_plan(other), ((None,) * 3, (None,) * 4))
        self.assertEqual(parse_plan(text, world), plan)
        self.assertEqual(format_plan(world, plan), text)
        self.assertEqual(empty_plan(world), ((None,), (None,)))


if __name__ == "__main__":
    unittest.main()
