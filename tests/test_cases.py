"""Points 2 and 17: cases."""

import unittest

from downpass.cases import belongs, is_complete, open_case
from downpass.plans import OPEN, check_case, check_plan, empty_plan
from downpass.errors import BadPlan
from downpass.worlds import World
from tests.samples import sample_world, text_of, world_lines

# Options and others, antennas and others.
MADE_ENTRIES = [None, OPEN, (4, 0), (5, 0), (4, 1), (-1, 0), (99, 1)]
TAKEN_ENTRIES = [None, OPEN, 0, 1, -1, 99]


class OpenCase(unittest.TestCase):

    def test_for_every_number_of_recordings_and_passes(self):
        for recordings in range(11):
            for passes in range(11):
                world = World.parse(text_of(world_lines(1, 1, recordings, passes)))
                case = open_case(world)
                self.assertEqual(case, (("open",) * recordings, ("open",) * passes))
                self.assertIsNone(check_case(world, case))
                if recordings + passes > 0:
                    with self.assertRaises(BadPlan):
                        check_plan(world, case)

    def test_a_world_with_nothing(self):
        self.assertEqual(open_case(World.parse("horizon 1\n")), ((), ()))

    def test_it_is_made_of_tuples(self):
        case = open_case(sample_world())
        self.assertEqual([part.__class__ for part in (case, *case)], [tuple] * 3)


class Belongs(unittest.TestCase):

    def test_each_entry_of_a_recording(self):
        for ours in MADE_ENTRIES:
            for theirs in MADE_ENTRIES:
                due = theirs == OPEN or ours == theirs
                self.assertIs(belongs(((ours,), (None,)), ((theirs,), (None,))), due, (ours, theirs))
                self.assertIs(belongs(((None, ours), ()), ((OPEN, theirs), ())), due, (ours, theirs))

    def test_each_entry_of_a_pass(self):
        for ours in TAKEN_ENTRIES:
            for theirs in TAKEN_ENTRIES:
                due = theirs == OPEN or ours == theirs
                self.assertIs(belongs(((None,), (ours,)), ((None,), (theirs,))), due, (ours, theirs))
                self.assertIs(belongs(((), (0, ours)), ((), (OPEN, theirs))), due, (ours, theirs))

    def test_every_entry_counts(self):
        case = (((4, 0), OPEN, None), (OPEN, 1, None))
        self.assertIs(belongs((((4, 0), None, None), (0, 1, None)), case), True)
        self.assertIs(belongs((((4, 0), (7, 0), None), (None, 1, None)), case), True)
        self.assertIs(belongs((((5, 0), None, None), (0, 1, None)), case), False)
        self.assertIs(belongs((((4, 1), None, None), (0, 1, None)), case), False)
        self.assertIs(belongs(((None, None, None), (0, 1, None)), case), False)
        self.assertIs(belongs((((4, 0), None, (4, 0)), (0, 1, None)), case), False)
        self.assertIs(belongs((((4, 0), None, None), (0, 0, None)), case), False)
        self.assertIs(belongs((((4, 0), None, None), (0, None, None)), case), False)
        self.assertIs(belongs((((4, 0), None, None), (0, 1, 0)), case), False)

    def test_all_plans_belong_to_the_open_case(self):
        world = sample_world()
        for ours in MADE_ENTRIES:
            for antenna in TAKEN_ENTRIES:
                self.assertIs(belongs(((ours,), (antenna,)), open_case(world)), True)

    def test_a_plan_belongs_to_itself_alone(self):
        world = sample_world()
        self.assertIs(belongs(empty_plan(world), empty_plan(world)), True)
        self.assertIs(belongs((((4, 0),), (0,)), (((4, 0),), (0,))), True)
        self.assertIs(belongs((((4, 0),), (0,)), empty_plan(world)), False)
        self.assertIs(belongs(((), ()), ((), ())), True)

    def test_an_open_entry_is_not_a_decided_one(self):
        self.assertIs(belongs(((OPEN,), (OPEN,)), ((None,), (None,))), False)
        self.assertIs(belongs(((OPEN,), (OPEN,)), ((OPEN,), (OPEN,))), True)

    def test_entries_of_another_number_are_not_the_same(self):
        self.assertIs(belongs(((None,), ()), ((None, None), ())), False)
        self.assertIs(belongs(((None, None), ()), ((None,), ())), False)
        self.assertIs(belongs(((), (None,)), ((), ())), False)


class IsComplete(unittest.TestCase):

    def test_each_entry(self):
        for made in MADE_ENTRIES:
            for taken in TAKEN_ENTRIES:
                due = made != OPEN and taken != OPEN
                self.assertIs(is_complete(((made,), (taken,))), due, (made, taken))

    def test_one_open_entry_is_enough(self):
        for k in range(4):
            made, taken = [None, (4, 0)], [0, None]
            self.assertIs(is_complete((tuple(made), tuple(taken))), True)
            [made, taken][k // 2][k % 2] = OPEN
            self.assertIs(is_complete((tuple(made), tuple(taken))), False)

    def test_of_open_cases_and_empty_plans(self):
        for recordings in range(3):
            for passes in range(3):
                world = World.parse(text_of(world_lines(1, 1, recordings, passes)))
                self.assertIs(is_complete(open_case(world)), recordings + passes == 0)
                self.assertIs(is_complete(empty_plan(world)), True)


if __name__ == "__main__":
    unittest.main()
