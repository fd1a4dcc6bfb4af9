"""drawnrings.seen: how the rings can have stood at first, beside all standings with which just this is seen."""

import itertools
import unittest

from drawnrings.errors import InvalidSeen, TooMany, Unknown
from drawnrings.rails import led
from drawnrings.scripts import Script
from drawnrings.seen import starts_seen
from tests import model
from tests.helpers import Case, all_but, is_plain_integer, pseudo_scripts, values_of_all_kinds

NIGHT = Script("cloth 2 5", "left 1 to 0", "right 1 to 20")
LEFT = Script("cloth 2 5", "left 1 to 0")

# Far enough beyond all places that the scripts below tell: who can stand there can stand anywhere beyond.
FAR = 120


class Examples(Case):
    def test_examples_of_the_document(self):
        self.assertEqual(starts_seen(LEFT, 3, ((2, 4),)), ((-1, 2), (4, 4), (6, 9)))
        self.assertEqual(starts_seen(LEFT, 3, ((2, 5), (3, 7))), ((0, 3), (5, 5), (7, 7)))
        self.assertIsNone(starts_seen(NIGHT, 5, ((1, 3),)))

    def test_by_name(self):
        self.assertEqual(starts_seen(seen=((2, 4),), n=3, script=LEFT), ((-1, 2), (4, 4), (6, 9)))


class AllStandings(Case):
    def check_script(self, script, n):
        first = range(-FAR, FAR + 1)
        if len(script.cloth) == 3:
            first = range(script.cloth[2], FAR + 1)
        standings = model.standings(script.cloth, n, first)
        ends = [led(script, places) for places in standings]
        rows = sorted({end for end, places in zip(ends, standings) if abs(places[0]) < FAR // 3})
        for end in rows[:: len(rows) // 5 + 1]:
            for rings in self.seen_rings(len(end)):
                seen = tuple([(ring, end[ring - 1]) for ring in rings])
                self.check_seen(script, n, seen, standings, ends)
                for at in range(len(seen)):
                    other = (*seen[:at], (seen[at][0], seen[at][1] + 1), *seen[at + 1:])
                    self.check_seen(script, n, other, standings, ends)

    def seen_rings(self, many):
        """No ring, each one alone, pairs of neighbours, the first and the last one, all."""
        told = [(), *[(ring,) for ring in range(1, many + 1)], tuple(range(1, many + 1))]
        return sorted({*told, *[(ring, ring + 1) for ring in range(1, many)], *([(1, many)] if many > 1 else [])})

    def check_seen(self, script, n, seen, standings, ends):
        fit = [
            places for places, end in zip(standings, ends)
            if all(end[ring - 1] == place for ring, place in seen)
        ]
        with self.subTest(script.rows, n=n, seen=seen):
            if not fit:
                self.assertIsNone(starts_seen(script, n, seen))
                return
            low = min(places[0] for places in fit) > -FAR or len(script.cloth) == 3
            high = max(places[0] for places in fit) < FAR
            wanted = [
                (min(row) if low else None, max(row) if high else None)
                for row in ([places[at] for places in fit] for at in range(n))
            ]
            self.assertEqual(starts_seen(script, n, seen), tuple(wanted))

    def test_each_move_behind_each_other_one(self):
        moves = ("left 1 to -2", "left 2 to 9", "right 1 to 8", "carry 4", "off left", "off right", "on left 3")
        for row in ("cloth 2 4", "cloth 1 2 from -3"):
            for many in range(3):
                for told in itertools.product(moves, repeat=many):
                    script = Script(row, *told)
                    if script.least < 3:
                        self.check_script(script, 2)

    def test_longer_scripts(self):
        for rows in pseudo_scripts("starts seen", 60, 6, 8):
            script = Script(*rows)
            if script.least < 4 and script.cloth[1] - script.cloth[0] < 3:
                self.check_script(script, 3)


class ByHand(Case):
    def test_nothing_seen(self):
        self.assertEqual(starts_seen(NIGHT, 3, ()), ((None, None),) * 3)
        self.assertEqual(starts_seen(Script("cloth 2 5 from 4", "carry 9"), 3, ()), ((4, None), (6, None), (8, None)))

    def test_nothing_drawn(self):
        script = Script("cloth 2 5", "carry 9")
        self.assertEqual(starts_seen(script, 3, ((2, 9),)), ((-5, -2), (0, 0), (2, 5)))
        self.assertEqual(starts_seen(script, 1, ((1, -10 ** 39),)), ((-10 ** 39 - 9, -10 ** 39 - 9),))

    def test_all_rings_seen(self):
        self.assertEqual(starts_seen(NIGHT, 3, ((1, 10), (2, 15), (3, 20))), ((None, None),) * 3)
        self.assertEqual(starts_seen(LEFT, 3, ((1, 0), (2, 3), (3, 7))), ((-2, 1), (3, 3), (7, 7)))
        self.assertEqual(starts_seen(LEFT, 3, ((1, 0), (2, 2), (3, 4))), ((None, 0), (None, 2), (None, 4)))
        self.assertEqual(starts_seen(LEFT, 3, ((1, 0), (2, 5), (3, 10))), ((0, None), (5, None), (10, None)))
        self.assertIsNone(starts_seen(LEFT, 3, ((1, 0), (2, 5), (3, 11))))
        self.assertIsNone(starts_seen(LEFT, 3, ((1, 1),)))

    def test_rings_that_were_taken_off(self):
        script = Script("cloth 2 5", "off left", "off right", "left 1 to 0")
        self.assertEqual(starts_seen(script, 4, ((1, 0), (2, 3))), ((-7, -1), (-2, 1), (3, 3), (5, 8)))
        self.assertEqual(starts_seen(script, 4, ((2, 2),)), ((None, -2), (None, 0), (None, 2), (None, 7)))

    def test_rings_that_were_hooked_on(self):
        script = Script("cloth 2 5", "on left 0", "on right 30")
        self.assertEqual(starts_seen(script, 1, ((1, 20), (2, 25), (3, 30))), ((None, None),))
        self.assertEqual(starts_seen(script, 1, ((1, 20),)), ((None, None),))
        self.assertIsNone(starts_seen(script, 1, ((1, 0),)))
        self.assertIsNone(starts_seen(script, 1, ((3, 31),)))
        self.assertEqual(starts_seen(Script("cloth 2 5", "on left 0"), 2, ((2, 4),)), ((4, 4), (6, 9)))

    def test_with_an_end_of_the_rail(self):
        script = Script("cloth 2 5 from 1", "right 1 to 3")
        self.assertEqual(starts_seen(script, 2, ((1, 1), (2, 3))), ((1, None), (3, None)))
        script = Script("cloth 2 5 from 1")
        self.assertEqual(starts_seen(script, 3, ((3, 5),)), ((1, 1), (3, 3), (5, 5)))
        self.assertEqual(starts_seen(script, 3, ((3, 6),)), ((1, 2), (3, 4), (6, 6)))
        self.assertEqual(starts_seen(script, 3, ((1, 2),)), ((2, 2), (4, 7), (6, 12)))
        self.assertIsNone(starts_seen(script, 3, ((3, 4),)))

    def test_rings_that_do_not_hang_so(self):
        script = Script("cloth 2 5")
        self.assertIsNone(starts_seen(script, 3, ((1, 0), (2, 1))))
        self.assertIsNone(starts_seen(script, 3, ((1, 0), (3, 11))))
        self.assertIsNone(starts_seen(script, 3, ((1, 0), (3, 3))))
        self.assertEqual(starts_seen(script, 3, ((1, 0), (3, 10))), ((0, 0), (5, 5), (10, 10)))
        self.assertEqual(starts_seen(script, 3, ((1, 0), (3, 8))), ((0, 0), (3, 5), (8, 8)))

    def test_two_hundred_rings(self):
        told = starts_seen(LEFT, 200, ((200, 500),))
        self.assertEqual(len(told), 200)
        self.assertEqual((told[0], told[198], told[199]), ((-495, 102), (495, 498), (500, 500)))
        self.assertEqual(starts_seen(LEFT, 200, ()), ((None, None),) * 200)
        all_seen = tuple([(ring, 3 * (ring - 1)) for ring in range(1, 201)])
        told = starts_seen(LEFT, 200, all_seen)
        self.assertEqual(told[0], (-2, 1))
        self.assertEqual(told[1:], tuple([(3 * at, 3 * at) for at in range(1, 200)]))

    def test_equal_calls_return_equal_results(self):
        seen = ((2, 4),)
        script = Script("cloth 2 5 from -3", "left 1 to 0", "on left -4")
        self.assertEqual(starts_seen(script, 3, seen), starts_seen(Script(*script.rows), 3, ((2, 4),)))
        self.assertEqual(starts_seen(script, 3, seen), starts_seen(script, 3, seen))
        self.assertEqual((seen, script.rows), (((2, 4),), ("cloth 2 5 from -3", "left 1 to 0", "on left -4")))


class Errors(Case):
    def test_too_many_rings(self):
        for n in (201, 202, 10 ** 39):
            self.check_given(TooMany, n, starts_seen, LEFT, n, ())
            self.check_given(TooMany, n, starts_seen, LEFT, n, ((1, 0), (n, 9)))
        off = Script("cloth 2 5", "off left")
        self.check_given(TooMany, 201, starts_seen, off, 201, ())
        self.assertEqual(len(starts_seen(Script("cloth 2 5", "on left 0"), 200, ())), 200)

    def test_unknown_comes_before_too_many(self):
        script = Script("cloth 2 5", "carry 1", "some to 0", "some to 1")
        for n in (1, 200, 201, 10 ** 39):
            self.check_raises(Unknown, {"index": 2}, starts_seen, script, n, ())

    def test_what_was_not_seen_comes_before_unknown(self):
        script = Script("cloth 2 5", "some to 0")
        for n in (3, 201):
            self.check_raises(InvalidSeen, {"index": None}, starts_seen, script, n, [])
            self.check_raises(InvalidSeen, {"index": 1}, starts_seen, script, n, ((1, 0), (1, 0)))

    def test_no_tuple(self):
        for value in values_of_all_kinds():
            if not isinstance(value, tuple):
                with self.subTest(type(value).__name__):
                    self.check_raises(InvalidSeen, {"index": None}, starts_seen, LEFT, 3, value)

    def test_values_of_all_kinds_among_what_was_seen(self):
        for value in all_but(lambda value: isinstance(value, tuple) and value == (2, 5)):
            with self.subTest(type(value).__name__):
                self.check_raises(InvalidSeen, {"index": 0}, starts_seen, LEFT, 3, (value,))
                self.check_raises(InvalidSeen, {"index": 1}, starts_seen, LEFT, 3, ((1, 0), value, value))

    def test_values_of_all_kinds_as_ring_and_place(self):
        for value in all_but(is_plain_integer):
            with self.subTest(type(value).__name__):
                self.check_raises(InvalidSeen, {"index": 0}, starts_seen, LEFT, 3, ((value, 0),))
                self.check_raises(InvalidSeen, {"index": 0}, starts_seen, LEFT, 3, ((1, value),))
                self.check_raises(InvalidSeen, {"index": 1}, starts_seen, LEFT, 3, ((1, 0), (value, 2)))
                self.check_raises(InvalidSeen, {"index": 2}, starts_seen, LEFT, 3, ((1, 0), (2, 2), (3, value)))

    def test_rings_that_are_not_there(self):
        on = Script("cloth 2 5", "on left 0")
        off = Script("cloth 2 5", "off left")
        for script, rings in ((LEFT, 3), (on, 4), (off, 2)):
            for ring in (0, -1, rings + 1, 10 ** 39, -10 ** 39):
                self.check_raises(InvalidSeen, {"index": 0}, starts_seen, script, 3, ((ring, 0),))
                self.check_raises(InvalidSeen, {"index": 1}, starts_seen, script, 3, ((1, 0), (ring, 0)))
            starts_seen(script, 3, ((rings, 0),))

    def test_rings_that_do_not_ascend(self):
        for seen, index in (
            (((1, 0), (1, 0)), 1), (((2, 0), (1, 0)), 1), (((1, 0), (3, 4), (2, 2)), 2), (((3, 0), (3, 0), (9, 9)), 1),
        ):
            self.check_raises(InvalidSeen, {"index": index}, starts_seen, LEFT, 3, seen)

    def test_lists_in_the_place_of_tuples(self):
        self.check_raises(InvalidSeen, {"index": None}, starts_seen, LEFT, 3, [(1, 0)])
        self.check_raises(InvalidSeen, {"index": 0}, starts_seen, LEFT, 3, ([1, 0],))
        self.check_raises(InvalidSeen, {"index": 0}, starts_seen, LEFT, 3, (1, 0))
        self.check_raises(InvalidSeen, {"index": 0}, starts_seen, LEFT, 3, ((1, 0, 0),))


if __name__ == "__main__":
    unittest.main()
