"""drawnrings.asking: covers, frees, dark_from and always_sure."""

import unittest

from drawnrings.asking import always_sure, covers, dark_from, frees
from drawnrings.bounds import dark, reach, sure
from drawnrings.rails import led
from drawnrings.scripts import Script
from tests import model
from tests.helpers import Case, numbers_in, pseudo_scripts

NIGHT = Script("cloth 2 5", "left 1 to 0", "right 1 to 20")
CHILD = Script("cloth 2 5", "some to 0", "right 1 to 30")
GREAT = 10 ** 30

SOME_MOVES = (
    "some to -2", "left 1 to 3", "left 3 to 9", "right 1 to 8", "right 2 to -1", "carry -4", "off left", "off right",
    "on left 3", "on right 5",
)


def is_at_most(place, a):
    return place is not None and place <= a


def is_at_least(place, b):
    return place is not None and place >= b


class Examples(Case):
    def test_examples_of_the_document(self):
        self.assertEqual(covers(NIGHT, 0, 20), ((5, None),))
        self.assertEqual(covers(NIGHT, -3, 20), ((13, None),))
        self.assertEqual(frees(NIGHT, 20, 30), ((1, None),))
        self.assertEqual(frees(Script("cloth 2 5", "left 2 to 9"), 0, 4), ((2, None),))
        self.assertEqual(covers(CHILD, 3, 30), ((7, None),))
        self.assertEqual(covers(Script("cloth 2 5 from 0", "left 3 to 9"), 4, 9), ())
        self.assertEqual(always_sure(NIGHT), 11)
        self.assertIsNone(always_sure(Script("cloth 2 5", "left 1 to 0")))
        self.assertEqual(always_sure(Script("cloth 1 3", "left 1 to 9", "right 1 to 0")), 1)
        self.assertEqual(dark_from(NIGHT, 4), (5, 20))
        self.assertEqual(dark_from(NIGHT, 13), (-4, 20))
        self.assertEqual(dark_from(Script("cloth 2 5", "left 1 to 0"), 3), (0, 4))
        self.assertEqual(dark_from(Script("cloth 2 5", "right 1 to 0"), 2), (-2, 0))

    def test_by_name(self):
        self.assertEqual(covers(b=20, a=0, script=NIGHT), ((5, None),))
        self.assertEqual(frees(b=30, a=20, script=NIGHT), ((1, None),))
        self.assertEqual(dark_from(n=4, script=NIGHT), (5, 20))
        self.assertEqual(always_sure(script=NIGHT), 11)


class AllNumbers(Case):
    """Beside rails that are led with each number of rings up to one from which on all goes on as it did."""

    MANY = 60

    def check_script(self, script):
        last = script.least + self.MANY
        numbers = range(script.least, last + 1)
        rows = {n: model.outer_reaches(script.cloth, script.rows[1:], n) for n in numbers}
        with self.subTest(script.rows):
            for a, b in self.windows(rows, script.least):
                self.check_window(script, rows, a, b)
            loose = [n for n in numbers if any(low is None or low != high for low, high in rows[n])]
            self.check_always(script, loose, last)
            for n in (script.least, script.least + 4, script.least + 15):
                self.check_dark(script, rows, n, last)

    def windows(self, rows, least):
        """Windows at, within and just beyond the places where the first and the last ring can be."""
        told = [(-30, 30), (0, 2), (-1, 5), (-9, -4)]
        for n in (least, least + 1, least + 3, least + 8):
            for a, b in ((rows[n][0][1], rows[n][-1][0]), (rows[n][-1][1], rows[n][0][0])):
                for more in (-1, 0, 1):
                    left = 0 if a is None else a + more
                    right = left + 2 if b is None else b - more
                    told += [(left, max(left + 2, right)), (right - 2, right)]
        return sorted(set(told))

    def check_window(self, script, rows, a, b):
        told = covers(script, a, b)
        covered = [n for n, row in rows.items() if is_at_most(row[0][1], a) and is_at_least(row[-1][0], b)]
        self.check_stretches(told)
        self.assertEqual(numbers_in(told, 0, max(rows)), covered, (a, b))
        if script.known:
            told = frees(script, a, b)
            free = [n for n, row in rows.items() if is_at_most(row[-1][1], a) or is_at_least(row[0][0], b)]
            self.check_stretches(told)
            self.assertEqual(numbers_in(told, 0, max(rows)), free, (a, b))

    def check_always(self, script, loose, last):
        if last in loose:
            self.assertIsNone(always_sure(script))
        else:
            self.assertEqual(always_sure(script), max(loose, default=script.least - 1) + 1)

    def check_dark(self, script, rows, n, last):
        firsts = [rows[more][0][1] for more in range(n, last + 1)]
        lasts = [rows[more][-1][0] for more in range(n, last + 1)]
        wanted = None
        if None not in firsts and None not in lasts and min(lasts) >= max(firsts) + 2:
            wanted = (max(firsts), min(lasts))
        self.assertEqual(dark_from(script, n), wanted, n)

    def test_each_move_behind_each_other_one(self):
        for row in ("cloth 2 5", "cloth 1 2 from -3"):
            for one in SOME_MOVES:
                self.check_script(Script(row, one))
                for other in SOME_MOVES:
                    self.check_script(Script(row, one, other))

    def test_longer_scripts(self):
        for rows in pseudo_scripts("asking", 70, 7, 8, with_some=True):
            self.check_script(Script(*rows))


class Windows(Case):
    def check_edges(self, script, stretches, holds):
        """The numbers at both ends of each stretch, and beside them."""
        for first, last in stretches:
            for n in (first, first + 1, GREAT if last is None else last):
                self.assertTrue(holds(max(first, n if last is None else min(n, last))), (script.rows, n))
            if first > script.least:
                self.assertFalse(holds(first - 1))
            if last is not None:
                self.assertFalse(holds(last + 1))

    def covered(self, script, a, b, n):
        first, last = reach(script, n, 1), reach(script, n, n + script.change)
        return is_at_most(first[1], a) and is_at_least(last[0], b)

    def free(self, script, a, b, n):
        first, last = reach(script, n, 1), reach(script, n, n + script.change)
        return is_at_most(last[1], a) or is_at_least(first[0], b)

    def test_ends_of_stretches(self):
        for rows in pseudo_scripts("windows", 150, 10, 99, with_some=True):
            script = Script(*rows)
            for a, b in ((0, 2), (-50, 50), (-99, -80), (-700, 700), (10 ** 30, 2 * 10 ** 30), (-10 ** 31, -10 ** 30)):
                told = covers(script, a, b)
                self.check_stretches(told)
                self.check_edges(script, told, lambda n: self.covered(script, a, b, n))
                if script.known:
                    told = frees(script, a, b)
                    self.check_stretches(told)
                    self.check_edges(script, told, lambda n: self.free(script, a, b, n))

    def test_by_hand(self):
        script = Script("cloth 2 5 from 0", "right 1 to 6")
        self.assertEqual(frees(script, -3, 0), ((1, None),))
        self.assertEqual(frees(script, 3, 5), ((1, 1),))
        self.assertEqual(frees(script, 6, 9), ((1, 4),))
        self.assertEqual(covers(script, 0, 6), ((4, None),))
        script = Script("cloth 2 5", "left 1 to 0", "right 1 to 20", "left 1 to 0")
        self.assertEqual(covers(script, 0, 20), ((5, None),))
        self.assertEqual(covers(script, 0, 21), ((12, None),))
        self.assertEqual(frees(script, 19, 21), ((1, 4),))
        script = Script("cloth 1 9 from 0", "right 1 to 6", "carry -3")
        self.assertEqual(frees(script, 3, 6), ((1, 7),))
        self.assertEqual(frees(script, -2, 0), ((1, 1),))
        self.assertEqual(frees(script, -1, 1), ((1, 1),))
        self.assertEqual(frees(script, 0, 4), ())
        script = Script("cloth 2 5", "left 1 to 30", "right 1 to 0", "left 1 to -20")
        self.assertEqual(frees(script, -9, -3), ((1, 3),))

    def test_places_of_thirty_digits(self):
        left = Script("cloth 2 5", "left 1 to 0")
        self.assertEqual(covers(left, 0, GREAT), ((GREAT // 2 + 1, None),))
        self.assertEqual(covers(left, 0, GREAT + 1), ((GREAT // 2 + 2, None),))
        self.assertEqual(covers(left, -1, GREAT), ())
        self.assertEqual(frees(left, GREAT, 2 * GREAT), ((1, GREAT // 5 + 1),))
        self.assertEqual(frees(left, GREAT - 1, 2 * GREAT), ((1, GREAT // 5),))
        self.assertEqual(frees(left, -GREAT, 0), ((1, None),))
        self.assertEqual(frees(left, -GREAT, 1), ())
        right = Script("cloth 2 5", "right 1 to 0")
        self.assertEqual(covers(right, -GREAT, 0), ((GREAT // 2 + 1, None),))
        self.assertEqual(frees(right, -2 * GREAT, -GREAT), ((1, GREAT // 5 + 1),))
        self.assertEqual(frees(right, -2 * GREAT, 1 - GREAT), ((1, GREAT // 5),))

    def test_stretches_begin_at_the_least_number(self):
        script = Script("cloth 2 5", "off left", "off right", "left 2 to 0")
        self.assertEqual(script.least, 4)
        self.assertEqual(covers(script, 0, 2), ((5, None),))
        self.assertEqual(covers(script, -2, 0), ((4, None),))
        self.assertEqual(frees(script, -7, -5), ((4, None),))
        self.assertEqual(frees(script, 0, 2), ((4, 4),))

    def test_nothing_drawn(self):
        for row in ("cloth 2 5", "cloth 2 5 from 0"):
            self.assertEqual(covers(Script(row, "carry 3"), -GREAT, GREAT), ())
        self.assertEqual(frees(Script("cloth 2 5"), 0, 2), ())
        self.assertEqual(frees(Script("cloth 2 5 from 0", "carry 3"), 1, 3), ((1, None),))
        self.assertEqual(frees(Script("cloth 2 5 from 0", "carry 3"), 2, 4), ())

    def test_free_for_all_standings_led(self):
        """No window is free on the one side for some standings and on the other one for all others."""
        for rows in (("cloth 1 2", "left 2 to 0"), ("cloth 1 3", "right 1 to 3", "off left", "carry -2")):
            script = Script(*rows)
            for n in range(script.least, 4):
                standings = model.standings(script.cloth, n, range(-12, 13))
                ends = [led(script, places) for places in standings]
                for a in range(-9, 9):
                    for b in range(a + 2, a + 6):
                        free = all(end[-1] <= a or end[0] >= b for end in ends)
                        self.assertEqual(numbers_in(frees(script, a, b), n, n), [n] if free else [])


class From(Case):
    def test_always_sure_beside_sure(self):
        for rows in pseudo_scripts("always sure", 150, 10, 99, with_some=True):
            script = Script(*rows)
            told = always_sure(script)
            with self.subTest(rows):
                if told is None:
                    self.assertNotEqual(sure(script, GREAT), ((1, GREAT + script.change),))
                else:
                    for n in (told, told + 1, told + 100, GREAT):
                        self.assertEqual(sure(script, n), ((1, n + script.change),))
                    if told > script.least:
                        self.assertNotEqual(sure(script, told - 1), ((1, told - 1 + script.change),))

    def test_always_sure_by_hand(self):
        self.assertEqual(always_sure(Script("cloth 2 5 from 0", "right 1 to 6")), 4)
        self.assertEqual(always_sure(Script("cloth 2 5", "on left 0", "off right")), None)
        self.assertEqual(always_sure(Script("cloth 1 2", "left 1 to -99", *["carry -99"] * 8, "right 1 to 99")), 991)
        self.assertEqual(always_sure(Script("cloth 2 5", "off left", "off right", "left 2 to 3", "right 1 to 0")), 4)
        self.assertIsNone(always_sure(Script("cloth 2 5")))
        self.assertIsNone(always_sure(Script("cloth 2 5 from 3", "carry 4")))
        self.assertIsNone(always_sure(Script("cloth 2 5", "some to 0")))
        self.assertIsNone(always_sure(Script("cloth 2 5", "some to 20", "right 1 to 0")))
        self.assertIsNone(always_sure(CHILD))
        self.assertEqual(always_sure(Script("cloth 2 5", "some to 9", "left 1 to 0", "right 1 to 0")), 1)

    def test_always_sure_where_rings_are_sure_with_some_lesser_numbers_too(self):
        script = Script("cloth 2 5 from 2", "right 3 to 6", "carry -12", "on right 9")
        wanted = [model.outer_reaches(script.cloth, script.rows[1:], n) for n in range(3, 30)]
        loose = [n for n, row in enumerate(wanted, start=3) if any(low != high for low, high in row)]
        self.assertEqual(loose, [4, 6, 7, 8, 9])
        self.assertEqual(always_sure(script), 10)
        script = Script("cloth 1 4 from -12", "off right", "right 5 to 9", "right 3 to -2")
        self.assertEqual(sure(script, 14), ((1, 13),))
        self.assertEqual(sure(script, 21), ((1, 20),))
        self.assertIsNone(always_sure(script))

    def test_dark_from_beside_dark(self):
        for rows in pseudo_scripts("dark from", 150, 10, 60, with_some=True):
            script = Script(*rows)
            for n in (script.least, script.least + 7, script.least + 300, GREAT):
                told = dark_from(script, n)
                with self.subTest(rows, n=n):
                    if told is not None:
                        self.assertIs(type(told), tuple)
                        for more in (n, n + 1, n + 9, n + 10 ** 31):
                            self.assertLessEqual(dark(script, more)[0], told[0])
                            self.assertGreaterEqual(dark(script, more)[1], told[1])

    def test_dark_from_great_numbers(self):
        self.assertEqual(dark_from(NIGHT, GREAT), (20 - 2 * (GREAT - 1), 20))
        self.assertEqual(dark_from(Script("cloth 2 5", "left 1 to 0"), GREAT), (0, 2 * (GREAT - 1)))
        self.assertEqual(dark_from(Script("cloth 2 5", "left 3 to 0", "carry 7"), GREAT), (3, 2 * (GREAT - 3) + 7))
        self.assertIsNone(dark_from(Script("cloth 2 5", "some to 0"), GREAT))
        self.assertIsNone(dark_from(CHILD, 1))
        self.assertEqual(dark_from(CHILD, GREAT), (30 - 2 * (GREAT - 1), 30))
        self.assertIsNone(dark_from(Script("cloth 2 5"), GREAT))
        self.assertIsNone(dark_from(Script("cloth 2 5 from 0"), GREAT))
        self.assertIsNone(dark_from(Script("cloth 1 2", "left 1 to 0"), 2))
        self.assertEqual(dark_from(Script("cloth 1 2", "left 1 to 0"), 3), (0, 2))

    def test_dark_from_needs_each_greater_number(self):
        """With more rings the window is wider on the left, and less wide on the right."""
        script = Script("cloth 1 9", "left 1 to 0", "right 1 to 20")
        self.assertEqual([dark_from(script, n) for n in (1, 2, 3, 4)], [None, (11, 20), (2, 20), (0, 20)])


class Calls(Case):
    def test_equal_calls_return_equal_results(self):
        for rows in pseudo_scripts("equal calls", 20, 8, 20):
            script = Script(*rows)
            for call, more in ((covers, (-3, 5)), (frees, (-3, 5)), (dark_from, (20,)), (always_sure, ())):
                told = call(script, *more)
                self.assertEqual(told, call(script, *more))
                self.assertEqual(told, call(Script(*rows), *more))
            self.assertEqual(script, Script(*rows))


if __name__ == "__main__":
    unittest.main()
