"""drawnrings.bounds: bounds, beside rings that are led from many standings."""

import itertools
import unittest

from drawnrings.bounds import bounds
from drawnrings.rails import led
from drawnrings.scripts import Script
from tests import model
from tests.helpers import Case, pseudo_scripts

NIGHT = Script("cloth 2 5", "left 1 to 0", "right 1 to 20")

MOVES = (
    "left 1 to -2", "left 3 to 9", "right 1 to 8", "right 2 to -1", "carry 4", "off left", "off right",
    "on left 3", "on right 5",
)

FIRSTS = (-300, -12, -5, -4, -3, -2, 0, 1, 4, 5, 8, 11, 300)


def clamped(place, low, high):
    if low is not None and place < low:
        return low
    return high if high is not None and place > high else place


class Examples(Case):
    def test_examples_of_the_document(self):
        self.assertEqual(bounds(NIGHT, 5, 1), (0, 0, 0))
        self.assertEqual(bounds(NIGHT, 4, 1), (0, 5, 5))
        self.assertEqual(bounds(NIGHT, 6, 3), (0, 5, 10))
        self.assertEqual(bounds(Script("cloth 2 5", "carry 7"), 3, 2), (7, None, None))
        self.assertEqual(bounds(Script("cloth 2 5 from 4", "carry 7"), 3, 2), (7, 13, None))
        self.assertEqual(bounds(Script("cloth 2 5 from 0", "right 1 to 9"), 4, 2), (0, 2, 5))
        self.assertEqual(bounds(NIGHT, 10 ** 30, 10 ** 30 - 3), (0, 14, 14))

    def test_by_name(self):
        self.assertEqual(bounds(ring=3, n=6, script=NIGHT), (0, 5, 10))


class SmallNumbers(Case):
    """Each ring is where the bounds tell, for all standings; and it is at its least and at its greatest place."""

    def check_script(self, script):
        for rings in range(script.least, script.least + 3):
            numbers = model.first_numbers(script.rows[1:], rings)
            told = [bounds(script, rings, ring) for ring in range(1, len(numbers) + 1)]
            firsts = FIRSTS
            if len(script.cloth) == 3:
                firsts = [script.cloth[2], *[first for first in FIRSTS if first > script.cloth[2]]]
            standings = model.standings(script.cloth, rings, firsts)
            ends = [led(script, places) for places in standings]
            with self.subTest(script.rows, rings=rings):
                for at, (number, (carried, low, high)) in enumerate(zip(numbers, told)):
                    if number is not None:
                        wanted = [clamped(places[number - 1] + carried, low, high) for places in standings]
                        self.assertEqual([end[at] for end in ends], wanted)
                    self.check_extremes([end[at] for end in ends], low, high)
                    if low is not None and low == high:
                        self.assertEqual(carried, 0)

    def check_extremes(self, places, low, high):
        if low is None:
            self.assertLess(min(places), -250)
        else:
            self.assertEqual(min(places), low)
        if high is None:
            self.assertGreater(max(places), 250)
        else:
            self.assertEqual(max(places), high)

    def test_each_move_alone_and_behind_each_other_one(self):
        for many in range(3):
            for moves in itertools.product(MOVES, repeat=many):
                self.check_script(Script("cloth 2 4", *moves))

    def test_with_an_end_of_the_rail(self):
        for many in range(3):
            for moves in itertools.product(MOVES, repeat=many):
                self.check_script(Script("cloth 2 4 from -3", *moves))

    def test_longer_scripts(self):
        for rows in pseudo_scripts("bounds of few", 60, 6, 9):
            script = Script(*rows)
            if script.least < 4 and script.cloth[1] - script.cloth[0] < 3:
                self.check_script(script)


class GreaterNumbers(Case):
    def test_beside_rails_that_are_led_from_far_away(self):
        for rows in pseudo_scripts("bounds of many", 150, 10, 30):
            script = Script(*rows)
            for rings in (0, 1, 2, 5, 13, 28):
                n = script.least + rings
                wanted = model.bounds(script.cloth, rows[1:], n)
                with self.subTest(rows, n=n):
                    self.assertEqual([bounds(script, n, ring) for ring in range(1, len(wanted) + 1)], wanted)

    def test_numbers_of_forty_digits(self):
        """With so many rings each place goes on as it goes with a ring more when there are some hundreds."""
        for rows in pseudo_scripts("bounds of very many", 25, 7, 9):
            script = Script(*rows)
            few = [model.bounds(script.cloth, rows[1:], n) for n in (200, 201)]
            for n in (10 ** 30, 10 ** 39 + 12345):
                for ring in (1, 2, 3, 7, 40):
                    self.check_grown(script, n, ring, [told[ring - 1] for told in few])
                    self.check_grown(script, n, n + script.change + 1 - ring, [told[-ring] for told in few])

    def check_grown(self, script, n, ring, few):
        carried, low, high = bounds(script, n, ring)
        with self.subTest(script.rows, n=n, ring=ring):
            self.assertEqual(carried, few[0][0])
            for place, at in ((low, 1), (high, 2)):
                one, two = few[0][at], few[1][at]
                self.assertEqual(place, None if one is None else one + (n - 200) * (two - one))


class ByHand(Case):
    def test_far_rings(self):
        n = 10 ** 30
        left = Script("cloth 2 5", "left 1 to 0")
        for ring in (1, 2, n // 2, n):
            self.assertEqual(bounds(left, n, ring), (0, 2 * (ring - 1), 5 * (ring - 1)))
            self.assertEqual(bounds(NIGHT, n, ring), (0, 20 - 2 * (n - ring), 20 - 2 * (n - ring)))
        carried = Script("cloth 2 5", "left 1 to 0", "carry -7")
        self.assertEqual(bounds(carried, n, n), (-7, 2 * (n - 1) - 7, 5 * (n - 1) - 7))
        self.assertEqual(bounds(carried, n, 1), (0, -7, -7))

    def test_an_end_that_pushes_far_rings(self):
        n = 10 ** 31
        script = Script("cloth 2 5 from 0", "right 1 to 9")
        for ring in (1, 2, n // 3, n):
            self.assertEqual(bounds(script, n, ring), (0, 2 * (ring - 1), 2 * (ring - 1)))
        self.assertEqual(bounds(Script("cloth 2 5 from -99", "carry 99"), n, n), (99, 2 * (n - 1), None))

    def test_rings_that_were_hooked_on(self):
        script = Script("cloth 2 5", "on left 3", "on right 50", "carry 2")
        self.assertEqual(bounds(script, 1, 1), (0, 42, 42))
        self.assertEqual(bounds(script, 1, 2), (0, 47, 47))
        self.assertEqual(bounds(script, 1, 3), (0, 52, 52))
        self.assertEqual(bounds(Script("cloth 2 5", "on left 3"), 2, 1), (0, 3, 3))
        self.assertEqual(bounds(Script("cloth 2 5", "on left 3", "carry 4"), 2, 2), (4, 9, 12))
        self.assertEqual(bounds(Script("cloth 2 5 from 7", "on left 3"), 2, 1), (0, 7, 7))
        self.assertEqual(bounds(Script("cloth 2 5 from 7", "on right 3"), 2, 3), (0, 11, 11))
        self.assertEqual(bounds(Script("cloth 2 5", "on left 3", "left 1 to 8"), 2, 1), (0, 8, 8))

    def test_nothing_drawn(self):
        for moves, carried in (((), 0), (("carry 0",), 0), (("carry 5", "off left", "carry -9"), -4)):
            for ring in (1, 2):
                self.assertEqual(bounds(Script("cloth 2 5", *moves), 3, ring), (carried, None, None))
        script = Script("cloth 2 5 from 1", "carry 5", "off left", "carry -9")
        self.assertEqual([bounds(script, 3, ring) for ring in (1, 2)], [(-4, -1, None), (-4, 1, None)])

    def test_carried_rings_that_are_surely_somewhere(self):
        self.assertEqual(bounds(Script("cloth 2 5", "carry 3", "left 1 to 0", "carry 9"), 4, 1), (0, 9, 9))
        self.assertEqual(bounds(Script("cloth 2 5", "carry 3", "left 1 to 0", "carry 9"), 4, 2), (12, 11, 14))


class Calls(Case):
    def test_equal_calls_return_equal_results(self):
        script = Script("cloth 2 5 from 0", "carry 3", "right 2 to 9", "off left", "on right 30")
        before = (script.rows, script.cloth, script.least, script.change)
        told = [bounds(script, 6, ring) for ring in range(1, 7)]
        self.assertEqual(told, [bounds(Script(*script.rows), 6, ring) for ring in range(1, 7)])
        self.assertEqual(told, [bounds(script, 6, ring) for ring in range(1, 7)])
        self.assertEqual((script.rows, script.cloth, script.least, script.change), before)
        for row in told:
            self.assertIs(type(row), tuple)
            self.assertEqual([type(number) for number in row], [int] * 3)


if __name__ == "__main__":
    unittest.main()
