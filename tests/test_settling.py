"""drawnrings.settling: where scripts are settled, beside the words of the document told plainly."""

import itertools
import unittest

from drawnrings.lanes import lane_of
from drawnrings.scripts import Script
from drawnrings.settling import is_settled, least_settled, left_forms, right_forms
from tests import model
from tests.helpers import pseudo_scripts

NUMBERS = (1, 10, 11, 12, 13, 15, 20, 30, 60, 200, 1000, 3000)


def lanes(scripts):
    return [lane_of(script, "left") for script in scripts]


def plain(scripts):
    return [(script.cloth, script.rows[1:]) for script in scripts]


def least(scripts, most=3000):
    """The least t for which the scripts are settled at (t, t), found by the model alone."""
    low, high = 11, most
    while low < high:
        middle = (low + high) // 2
        if model.settled(plain(scripts), middle, middle):
            high = middle
        else:
            low = middle + 1
    return low


class Forms(unittest.TestCase):
    def test_forms_of_single_moves(self):
        for rows, lefts, rights in (
            (("cloth 2 5",), [], []),
            (("cloth 2 5", "carry 3", "off left", "off right"), [], []),
            (("cloth 2 5", "left 1 to 7"), [(2, 0, 5), (5, 0, 2)], []),
            (("cloth 2 5", "left 3 to 7", "carry -4", "off left"), [(2, 0, -1), (5, 0, -7)], []),
            (("cloth 2 5", "right 1 to 7"), [], [(0, -2, 9), (0, -5, 12)]),
            (("cloth 2 5", "right 3 to 7", "carry -4", "on right 9"), [],
             [(0, -2, 11), (0, -5, 23), (0, -2, 11), (0, -5, 14)]),
            (("cloth 2 5", "on left 7", "off right"), [(2, 0, 5), (5, 0, 2)], []),
            (("cloth 2 5 from 4",), [(2, 0, 2)], []),
            (("cloth 2 5 from 4", "carry 6", "off left"), [(2, 0, 10)], []),
            (("cloth 2 5 from 4", "left 2 to 5"), [(2, 0, 2), (2, 0, 2), (5, 0, -4)], []),
            (("cloth 2 5 from 4", "left 2 to 7"), [(2, 0, 2), (2, 0, 3), (5, 0, -3)], []),
            (("cloth 2 5 from 4", "right 3 to 7"), [(2, 0, 2), (2, 0, 2), (2, 0, 5), (2, 0, 8)],
             [(0, -2, 13), (0, -5, 22)]),
            (("cloth 2 5 from 4", "on right 7", "on left 5"), [(2, 0, 0), (2, 0, 0), (2, 0, 3), (5, 0, 0)],
             [(0, -2, 9), (0, -5, 12)]),
        ):
            script = Script(*rows)
            with self.subTest(rows):
                self.assertEqual(sorted(left_forms(lanes([script])[0])), sorted(lefts))
                self.assertEqual(sorted(right_forms(lanes([script])[0])), sorted(rights))

    def test_forms_beside_the_model(self):
        for rows in pseudo_scripts("forms", 400, 10, 99):
            script = Script(*rows)
            lane = lanes([script])[0]
            lefts, rights = model.forms(script.cloth, rows[1:])
            with self.subTest(rows):
                self.assertEqual(sorted(left_forms(lane)), sorted((pace, 0, rest) for pace, rest in lefts))
                self.assertEqual(sorted(right_forms(lane)), sorted((0, -pace, rest) for pace, rest in rights))


class Settled(unittest.TestCase):
    def scripts(self):
        """Lots of one or two scripts, the two ones of one cloth."""
        for place in (4, 12, 99):
            rows = pseudo_scripts(f"settled {place}", 40, 8, place)
            for one, other in zip(rows, rows[1:]):
                yield [Script(*one)]
                yield [Script(*one), Script(one[0], *other[1:])]

    def test_beside_the_model(self):
        for scripts in self.scripts():
            for spot in itertools.product(NUMBERS, repeat=2):
                told = is_settled(lanes(scripts), spot)
                self.assertIs(told, model.settled(plain(scripts), *spot), (scripts[0].rows, scripts[-1].rows, spot))

    def test_the_least_one(self):
        for scripts in self.scripts():
            self.assertEqual(least_settled(lanes(scripts)), least(scripts), (scripts[0].rows, scripts[-1].rows))

    def test_never_below_eleven(self):
        script = Script("cloth 2 5")
        for spot, wanted in (
            ((11, 11), True), ((10, 11), False), ((11, 10), False), ((0, 0), False), ((-11, 99), False),
        ):
            self.assertIs(is_settled(lanes([script]), spot), wanted)
        self.assertEqual(least_settled(lanes([script])), 11)

    def test_far_numbers(self):
        night = lanes([Script("cloth 2 5", "left 1 to 0", "right 1 to 20")])
        self.assertIs(is_settled(night, (10 ** 40, 10 ** 40)), True)
        self.assertIs(is_settled(night, (10 ** 40, 10)), False)

    def test_always_in_time(self):
        # The certificates of the document go up to 3000: these are the scripts whose forms are furthest apart.
        for cloth in ("cloth 1 2", "cloth 8 9", "cloth 1 9", "cloth 1 9 from -99", "cloth 1 2 from 99"):
            for ring in (1, 5):
                one = Script(cloth, f"left {ring} to 99", *["carry 99"] * 8, f"right {ring} to -99")
                other = Script(cloth, f"right {ring} to -99", *["carry -99"] * 8, f"left {ring} to 99")
                third = Script(cloth, f"left {ring} to -99", *["carry -99"] * 9)
                fourth = Script(cloth, f"right {ring} to 99", *["carry 99"] * 9)
                for scripts in ([one, other], [third, fourth], [one, third], [other, fourth], [one, fourth]):
                    self.assertLess(least_settled(lanes(scripts)), 2990)
                    self.assertEqual(least_settled(lanes(scripts)), least(scripts))


if __name__ == "__main__":
    unittest.main()
