"""Point 3: the classes of errors."""

import unittest

from downpass.errors import BadPlan, BadPrice, BadRow, PassError, TextFault


class ErrorClasses(unittest.TestCase):

    def test_all_are_under_pass_error(self):
        self.assertTrue(issubclass(PassError, ValueError))
        for error in (TextFault, BadPlan, BadRow, BadPrice):
            self.assertTrue(issubclass(error, PassError))
            self.assertIsNot(error, PassError)

    def test_none_is_under_another(self):
        classes = (TextFault, BadPlan, BadRow, BadPrice)
        for one in classes:
            for other in classes:
                self.assertEqual(issubclass(one, other), one is other)

    def test_fields_of_a_text_fault(self):
        fault = TextFault(3, 7, "missing word")
        self.assertEqual((fault.line, fault.column, fault.reason), (3, 7, "missing word"))
        self.assertIsInstance(fault, ValueError)

    def test_they_can_be_raised_with_a_message(self):
        for error in (PassError, BadPlan, BadRow, BadPrice):
            with self.assertRaises(error):
                raise error("words")


if __name__ == "__main__":
    unittest.main()
