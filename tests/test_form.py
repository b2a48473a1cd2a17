"""The form of the package's files."""

import unittest

from tests.form_rules import faults


class FormTest(unittest.TestCase):
    def test_rules_of_the_language_subset(self):
        self.assertEqual(faults(), [])


if __name__ == "__main__":
    unittest.main()
