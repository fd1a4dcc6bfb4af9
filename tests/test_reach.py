"""drawnrings.bounds: reach, spread, dark and sure."""

import itertools
import unittest

from drawnrings.bounds import bounds, dark, reach, spread, sure
from drawnrings.rails import led
from drawnrings.scripts import Script
from tests import model
from tests.helpers import Case, numbers_in, pseudo_scripts

NIGHT = Script("cloth 2 5", "left 1 to 0", "right 1 to 20")
CHILD = Script("cloth 2 5", "some to 0", "right 1 to 30")
GREAT = 10 ** 30

SOME_MOVES = (
    "some to -3", "some to 9", "left 2 to 4", "right 1 to 7", "carry -5", "off left", "off right", "on left 2",
    "on right 6",
)


def surely(reaches):
    """The numbers from the left of the rings that are at one place."""
    return [ring for ring, (low, high) in enumerate(reaches, start=1) if low is not None and low == high]


def widest(reaches):
    """The widest window that is surely covered, None if there is none."""
    a, b = reaches[0][1], reaches[-1][0]
    return None if a is None or b is None or b < a + 2 else (a, b)


class Examples(Case):
    def test_examples_of_the_document(self):
        self.assertEqual(sure(NIGHT, 6), ((1, 1), (6, 6)))
        self.assertEqual(sure(NIGHT, 12), ((1, 12),))
        self.assertEqual(sure(Script("cloth 2 5 from 0", "right 1 to 6"), 9), ((1, 9),))
        self.assertEqual(reach(CHILD, 3, 1), (20, 20))
        self.assertEqual(reach(Script("cloth 2 5"), 3, 1), (None, None))
        self.assertEqual(sure(CHILD, 3), ((1, 3),))
        self.assertEqual(spread(NIGHT, 5), (20, 20))
        self.assertEqual(spread(NIGHT, 6), (20, 20))
        self.assertEqual(spread(Script("cloth 2 5"), 4), (6, 15))
        self.assertEqual(spread(Script("cloth 2 5", "left 1 to 0", "on left 0"), 2), (4, 5))
        self.assertEqual(dark(NIGHT, 6), (0, 20))
        self.assertEqual(dark(NIGHT, 4), (5, 20))
        self.assertIsNone(dark(CHILD, 1))

    def test_by_name(self):
        self.assertEqual(reach(ring=1, n=3, script=CHILD), (20, 20))
        self.assertEqual(sure(n=12, script=NIGHT), ((1, 12),))
        self.assertEqual(spread(n=5, script=NIGHT), (20, 20))
        self.assertEqual(dark(n=6, script=NIGHT), (0, 20))


class Reaches(Case):
    def check_script(self, script, numbers):
        """Beside all choices of the rings that are drawn, for these numbers of rings."""
        for n in numbers:
            wanted = model.reaches(script.cloth, script.rows[1:], n)
            with self.subTest(script.rows, n=n):
                self.assertEqual([reach(script, n, ring) for ring in range(1, len(wanted) + 1)], wanted)
                self.check_stretches(sure(script, n))
                self.assertEqual(numbers_in(sure(script, n), 0, len(wanted) + 1), surely(wanted))
                self.assertEqual(dark(script, n), widest(wanted))

    def test_one_and_several_rows_of_some(self):
        for row in ("cloth 2 5", "cloth 1 3 from -2"):
            for many in range(1, 4):
                for moves in itertools.product(SOME_MOVES, repeat=many):
                    if many < 3 or moves.count("some to -3") + moves.count("some to 9") > 1:
                        script = Script(row, *moves)
                        self.check_script(script, range(script.least, script.least + 3))

    def test_longer_scripts(self):
        for rows in pseudo_scripts("reach of some", 120, 6, 12, with_some=True):
            script = Script(*rows)
            if sum(row.startswith("some") for row in rows) < 4:
                self.check_script(script, range(script.least, script.least + 5))

    def test_some_beside_standings_that_are_led(self):
        script = Script("cloth 2 4", "some to 3", "left 1 to 0", "some to 11")
        known = [Script("cloth 2 4", *moves) for moves in model.choices(script.rows[1:], 4)]
        standings = model.standings((2, 4), 4, (-100, -8, -3, 0, 1, 4, 100))
        ends = [led(row, places) for row in known for places in standings]
        for ring in range(4):
            places = [end[ring] for end in ends]
            self.assertEqual(reach(script, 4, ring + 1), (min(places), max(places)))

    def test_known_scripts_reach_as_far_as_their_bounds(self):
        for rows in pseudo_scripts("reach of known", 60, 8, 20):
            script = Script(*rows)
            for n in (script.least, script.least + 3, GREAT):
                for ring in (1, n + script.change):
                    self.assertEqual(reach(script, n, ring), bounds(script, n, ring)[1:])

    def test_nobody_knows_which_one_of_very_many(self):
        script = Script("cloth 2 5", "some to 0")
        self.assertEqual(reach(script, GREAT, 1), (-5 * (GREAT - 1), 0))
        self.assertEqual(reach(script, GREAT, GREAT), (0, 5 * (GREAT - 1)))
        self.assertEqual(reach(script, GREAT, 4), (-5 * (GREAT - 4), 15))
        self.assertEqual(reach(Script("cloth 2 5 from 1", "some to 0"), GREAT, 4), (7, 16))
        self.assertEqual(reach(Script("cloth 2 5", "some to 0", "on left 7", "carry 1"), GREAT, 1), (8, 8))

    def test_an_end_and_nothing_drawn(self):
        self.assertEqual(reach(Script("cloth 2 5 from 4", "carry 7"), 3, 2), (13, None))
        self.assertEqual(sure(Script("cloth 2 5 from 4", "carry 7"), 3), ())
        self.assertIsNone(dark(Script("cloth 2 5 from 4", "carry 7"), 3))


class Sure(Case):
    def test_many_rings(self):
        for rows in pseudo_scripts("sure", 120, 9, 15, with_some=True):
            script = Script(*rows)
            for n in (script.least + 1, script.least + 9, script.least + 24):
                wanted = model.outer_reaches(script.cloth, rows[1:], n)
                with self.subTest(rows, n=n):
                    self.check_stretches(sure(script, n))
                    self.assertEqual(numbers_in(sure(script, n), 0, len(wanted) + 1), surely(wanted))
                    self.assertEqual(dark(script, n), widest(wanted))

    def test_very_many_rings(self):
        """The ends of the stretches, and what stands beside them, ring by ring."""
        for rows in pseudo_scripts("sure of very many", 60, 8, 9, with_some=True):
            script = Script(*rows)
            rings = GREAT + script.change
            told = sure(script, GREAT)
            self.check_stretches(told)
            with self.subTest(rows):
                for first, last in told:
                    for ring in (first, (first + last) // 2, last):
                        self.assertTrue(self.is_sure(script, ring))
                    for ring in (first - 1, last + 1):
                        self.assertFalse(1 <= ring <= rings and self.is_sure(script, ring))
                edge = [*range(1, 40), *range(rings - 38, rings + 1)]
                wanted = [ring for ring in edge if self.is_sure(script, ring)]
                self.assertEqual([ring for ring in edge if numbers_in(told, ring, ring)], wanted)

    def is_sure(self, script, ring):
        low, high = reach(script, GREAT, ring)
        return low is not None and low == high

    def test_by_hand(self):
        self.assertEqual(sure(NIGHT, GREAT), ((1, GREAT),))
        self.assertEqual(sure(Script("cloth 2 5", "left 3 to 0"), GREAT), ((3, 3),))
        self.assertEqual(sure(Script("cloth 2 5", "right 3 to 0"), GREAT), ((GREAT - 2, GREAT - 2),))
        self.assertEqual(sure(Script("cloth 2 5"), GREAT), ())
        self.assertEqual(sure(Script("cloth 2 5", "on left 0", "on right -9"), GREAT), ((1, GREAT + 2),))
        self.assertEqual(sure(Script("cloth 2 5 from 0", "right 1 to 9", "carry 9"), GREAT), ((1, GREAT),))
        self.assertEqual(sure(Script("cloth 2 5 from 0", "right 1 to 9"), 1), ((1, 1),))
        self.assertEqual(sure(Script("cloth 2 5 from 0", "right 1 to 9"), 3), ((3, 3),))
        self.assertEqual(sure(Script("cloth 2 5", "some to 0"), 1), ((1, 1),))
        self.assertEqual(sure(Script("cloth 2 5", "some to 0"), 2), ())

    def test_stretches_of_neighbours_are_one(self):
        self.assertEqual(sure(Script("cloth 2 5", "left 1 to 0", "on left 0"), 2), ((1, 2),))
        self.assertEqual(sure(Script("cloth 2 5", "left 1 to 0", "on left 0", "on right 40"), 3), ((1, 5),))
        self.assertEqual(sure(Script("cloth 2 5", "left 1 to 0", "on left 0", "on right 12"), 3), ((1, 2), (5, 5)))


class Dark(Case):
    def test_a_lone_ring_covers_nothing(self):
        for moves in (("left 1 to 4",), ("some to 4",), ("right 1 to 4", "carry 3"), ("off left", "left 1 to 0")):
            script = Script("cloth 2 5", *moves)
            self.assertIsNone(dark(script, script.least))

    def test_a_pair_that_is_no_window(self):
        self.assertEqual(dark(Script("cloth 1 2", "left 1 to 0"), 3), (0, 2))
        self.assertIsNone(dark(Script("cloth 1 2", "left 1 to 0"), 2))
        self.assertEqual(dark(Script("cloth 2 5", "left 1 to 0"), 2), (0, 2))
        self.assertEqual(dark(Script("cloth 2 5", "left 2 to 0"), 2), (-2, 0))
        self.assertIsNone(dark(Script("cloth 2 5", "some to 0"), 2))
        self.assertIsNone(dark(Script("cloth 2 5", "some to 0"), 9))

    def test_no_pair(self):
        self.assertIsNone(dark(Script("cloth 2 5"), 9))
        self.assertIsNone(dark(Script("cloth 2 5", "carry 3"), GREAT))
        self.assertIsNone(dark(Script("cloth 2 5 from 0"), GREAT))

    def test_great_numbers(self):
        self.assertEqual(dark(Script("cloth 2 5", "left 1 to 0"), GREAT), (0, 2 * (GREAT - 1)))
        self.assertEqual(dark(NIGHT, GREAT), (20 - 2 * (GREAT - 1), 20))
        self.assertIsNone(dark(Script("cloth 2 5", "some to 0"), GREAT))


class Spread(Case):
    def check_script(self, script, n, firsts):
        if len(script.cloth) == 3:
            firsts = range(script.cloth[2], max(firsts) + 1)
        ends = [led(script, places) for places in model.standings(script.cloth, n, firsts)]
        told = [end[-1] - end[0] for end in ends]
        with self.subTest(script.rows, n=n):
            self.assertEqual(spread(script, n), (min(told), max(told)))

    def test_each_move_alone_and_behind_each_other_one(self):
        moves = ("left 1 to 1", "left 2 to 4", "right 1 to 5", "carry 3", "off left", "on left 2", "on right -1")
        for row in ("cloth 2 3", "cloth 1 3 from -2"):
            for many in range(3):
                for told in itertools.product(moves, repeat=many):
                    script = Script(row, *told)
                    for n in range(script.least, script.least + 2):
                        self.check_script(script, n, range(-25, 26))

    def test_longer_scripts(self):
        for rows in pseudo_scripts("spread", 90, 5, 5):
            script = Script(*rows)
            if script.least < 3 and script.cloth[1] - script.cloth[0] < 3:
                self.check_script(script, 3, range(-45, 46))

    def test_one_ring(self):
        for moves in ((), ("carry 3",), ("left 1 to 0",), ("off left", "right 1 to 4")):
            for row in ("cloth 2 5", "cloth 2 5 from 0"):
                script = Script(row, *moves)
                self.assertEqual(spread(script, script.least), (0, 0))

    def test_great_numbers(self):
        self.assertEqual(spread(Script("cloth 2 5"), GREAT), (2 * (GREAT - 1), 5 * (GREAT - 1)))
        self.assertEqual(spread(Script("cloth 2 5 from 7"), GREAT), (2 * (GREAT - 1), 5 * (GREAT - 1)))
        self.assertEqual(spread(Script("cloth 2 5", "left 1 to 0"), GREAT), (2 * (GREAT - 1), 5 * (GREAT - 1)))
        self.assertEqual(spread(NIGHT, GREAT), (2 * (GREAT - 1), 2 * (GREAT - 1)))
        self.assertEqual(spread(Script("cloth 2 5", "left 2 to 0"), GREAT), (2 * (GREAT - 1), 5 * (GREAT - 1)))


class Calls(Case):
    def test_equal_calls_return_equal_results(self):
        rows = ("cloth 2 5 from 0", "some to 3", "right 2 to 9", "off left", "on right 30")
        script = Script(*rows)
        for call, more in ((reach, (2,)), (sure, ()), (dark, ())):
            self.assertEqual(call(script, 6, *more), call(script, 6, *more))
            self.assertEqual(call(script, 6, *more), call(Script(*rows), 6, *more))
        self.assertEqual(spread(NIGHT, 9), spread(Script(*NIGHT.rows), 9))
        self.assertEqual((script.rows, script.known, script.least), (rows, False, 2))


if __name__ == "__main__":
    unittest.main()
