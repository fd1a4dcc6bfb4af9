"""drawnrings.limits: the six names and their values."""

import unittest

from drawnrings import limits


class Limits(unittest.TestCase):
    def test_values(self):
        told = {
            "MOST_CLOTH": 9,
            "MOST_MOVES": 10,
            "MOST_NAMED": 5,
            "MOST_PLACE": 99,
            "MOST_LOOKED": 3000,
            "MOST_EXCHANGES": 5,
        }
        for name, value in told.items():
            with self.subTest(name):
                self.assertEqual(getattr(limits, name), value)
                self.assertIs(type(getattr(limits, name)), int)
