"""The names of ways.py: the interface's section "Files", points [8], [14] and [21]."""

import unittest

from crossgrants import ways


class WaysTest(unittest.TestCase):
    def check(self, told, wanted):
        self.assertEqual(told, wanted)
        self.assertIs(type(told), type(wanted))

    def test_rounds(self):
        self.check(ways.ROUNDS, 4)

    def test_ways_of_a_switch(self):
        self.check(ways.GRANTS, "grants")
        self.check(ways.FIRST, "first")

    def test_spreads(self):
        self.check(ways.EVEN, "even")
        self.check(ways.EARLY, "early")
        self.check(ways.LATE, "late")


if __name__ == "__main__":
    unittest.main()
