"""limits.py: the four constants of the interface."""

import unittest

from wellfolk import limits


class LimitsTest(unittest.TestCase):

    def test_values(self):
        self.assertEqual(limits.MAX_SEQUENCE, 300)
        self.assertEqual(limits.MAX_PEOPLE, 200)
        self.assertEqual(limits.MAX_PEOPLE_IN_SEQUENCES, 9)
        self.assertEqual(limits.MAX_GROUPS, 12)

    def test_they_are_integers(self):
        for name in ("MAX_SEQUENCE", "MAX_PEOPLE", "MAX_PEOPLE_IN_SEQUENCES", "MAX_GROUPS"):
            self.assertIs(type(getattr(limits, name)), int, name)


if __name__ == "__main__":
    unittest.main()
