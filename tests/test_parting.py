"""drawnrings.asking: parting, needless and pruned."""

import itertools
import unittest

from drawnrings.asking import needless, parting, pruned
from drawnrings.rails import led
from drawnrings.scripts import Script
from tests import model
from tests.helpers import Case, pseudo_scripts

NIGHT = Script("cloth 2 5", "left 1 to 0", "right 1 to 20")
TWICE = Script("cloth 2 5", "left 1 to 9", "left 1 to 0")

MOVES = (
    "left 1 to -2", "left 3 to 9", "right 1 to 8", "right 2 to -1", "carry 4", "off left", "off right",
    "on left 3", "on right 5",
)


def first_unlike(one, other, many):
    """What parting is to return, if it is told by the first so many numbers of rings."""
    if one.cloth != other.cloth:
        return "cloth"
    if one.change != other.change:
        return "rings"
    least = max(one.least, other.least)
    for n in range(least, least + many):
        rings = model.unlike_rings(one.cloth, one.rows[1:], other.rows[1:], n)
        if rings:
            return (n, rings[0])
    return None


def without(script, index):
    return Script(*script.rows[:index], *script.rows[index + 1:])


class Examples(Case):
    def test_examples_of_the_document(self):
        self.assertEqual(parting(TWICE, Script("cloth 2 5", "left 1 to 0")), (2, 2))
        self.assertEqual(parting(NIGHT, Script("cloth 2 5", "left 1 to 3", "left 1 to 0", "right 1 to 20")), (6, 2))
        self.assertEqual(needless(Script("cloth 2 5", "right 1 to 8", "left 1 to 0", "left 1 to 0")), (2, 3))
        self.assertEqual(parting(NIGHT, Script("cloth 2 5", "off left")), "rings")
        told = pruned(Script("cloth 2 5", "left 1 to 9", "carry 0", "left 1 to 9", "right 2 to 4"))
        self.assertEqual(told.rows, ("cloth 2 5", "left 1 to 9", "right 2 to 4"))

    def test_by_name(self):
        self.assertEqual(parting(other=Script("cloth 2 5", "left 1 to 0"), one=TWICE), (2, 2))
        self.assertEqual(needless(script=TWICE), ())
        self.assertEqual(pruned(script=TWICE), TWICE)


class Parting(Case):
    def check(self, one, other, many=40):
        wanted = first_unlike(one, other, many)
        with self.subTest(one=one.rows, other=other.rows):
            self.assertEqual(parting(one, other), wanted)
            self.assertEqual(parting(other, one), wanted)
            self.assertIsNone(parting(one, one))

    def test_all_pairs_of_short_scripts(self):
        for row in ("cloth 2 5", "cloth 1 3 from -3"):
            scripts = [Script(row, *moves) for many in range(2) for moves in itertools.product(MOVES, repeat=many)]
            for one, other in itertools.combinations(scripts, 2):
                self.check(one, other, 20)

    def test_one_move_more(self):
        for rows in pseudo_scripts("parting", 110, 6, 8):
            for index in range(1, len(rows)):
                self.check(Script(*rows), Script(*rows[:index], *rows[index + 1:]))

    def test_two_moves_the_other_way_round(self):
        for rows in pseudo_scripts("parting the other way round", 90, 6, 8):
            for index in range(1, len(rows) - 1):
                other = (*rows[:index], rows[index + 1], rows[index], *rows[index + 2:])
                self.check(Script(*rows), Script(*other))

    def test_rings_that_come_from_elsewhere(self):
        for one, other in (
            (("off left", "on right 4"), ("off right", "on left 4")),
            (("on left 4", "off right"), ()),
            (("on left 4", "off left"), ("left 1 to 4",)),
            (("on left 4", "off left"), ("left 1 to 6",)),
            (("off left", "on left 0", "right 1 to 9"), ("left 1 to 0", "right 1 to 9")),
            (("off left", "on right 0", "left 1 to 0", "right 1 to -9"), ("left 1 to 0", "right 1 to -9")),
            (("on left 9", "off right", "right 1 to 0"), ("left 1 to 9", "right 1 to 0")),
            (("off left", "on right 9", "left 1 to 0"), ("right 1 to 9", "left 1 to 0")),
        ):
            self.check(Script("cloth 2 5", *one), Script("cloth 2 5", *other))
            self.check(Script("cloth 2 5 from 2", *one), Script("cloth 2 5 from 2", *other))

    def test_beside_all_standings(self):
        """What shows the parting is there for some standing, and nothing is unlike before."""
        for rows in pseudo_scripts("parting of standings", 130, 4, 4):
            script = Script(*rows)
            for index in range(1, len(rows)):
                other = without(script, index)
                if script.change == other.change and script.cloth[1] - script.cloth[0] < 3:
                    self.check_standings(script, other)

    def check_standings(self, one, other):
        told = parting(one, other)
        least = max(one.least, other.least)
        for n in range(least, 4):
            first = range(-20, 21) if len(one.cloth) == 2 else range(one.cloth[2], 21)
            standings = model.standings(one.cloth, n, first)
            ends = zip([led(one, places) for places in standings], [led(other, places) for places in standings])
            unlike = [at for pair in ends for at, (x, y) in enumerate(zip(*pair), start=1) if x != y]
            with self.subTest(one=one.rows, other=other.rows, n=n):
                if unlike:
                    self.assertEqual(told, (n, min(unlike)))
                    return
                self.assertTrue(told is None or told[0] > n)

    def test_cloth_comes_first(self):
        for row in ("cloth 2 6", "cloth 1 5", "cloth 2 5 from 0"):
            self.assertEqual(parting(NIGHT, Script(row, "left 1 to 0", "right 1 to 20")), "cloth")
            self.assertEqual(parting(Script(row), NIGHT), "cloth")
            self.assertEqual(parting(NIGHT, Script(row, "off left")), "cloth")
        self.assertEqual(parting(Script("cloth 2 5 from 0"), Script("cloth 2 5 from 1")), "cloth")

    def test_rings_come_before_places(self):
        self.assertEqual(parting(NIGHT, Script("cloth 2 5", "left 1 to 9", "on left 4")), "rings")
        self.assertEqual(parting(Script("cloth 2 5", "off left"), Script("cloth 2 5", "on left 0")), "rings")

    def test_other_rows_that_come_to_the_same(self):
        for one, other in (
            ((), ("carry 0",)),
            (("carry 3", "carry 4"), ("carry 7",)),
            (("carry 3", "left 1 to 0"), ("left 1 to -3", "carry 3")),
            (("off left", "off right"), ("off right", "off left")),
            (("right 1 to 8", "left 1 to 0"), ("right 1 to 8", "left 1 to 0", "left 1 to 0")),
            (("on left 3", "off left"), ("left 1 to 5", "left 1 to 8", "off left", "on left 3", "off left")),
            (("left 1 to 9", "right 1 to 0"), ("left 1 to 30", "right 1 to 0")),
        ):
            told = parting(Script("cloth 2 5", *one), Script("cloth 2 5", *other))
            self.assertEqual(told, first_unlike(Script("cloth 2 5", *one), Script("cloth 2 5", *other), 40))
        self.assertIsNone(parting(Script("cloth 2 5"), Script("cloth 2 5", "carry 3", "carry -3")))
        self.assertIsNone(
            parting(Script("cloth 2 5", "left 1 to 9", "right 1 to 0"), Script("cloth 2 5", "left 1 to 3", "right 1 to 0"))
        )

    def test_a_greater_least_number_starts_later(self):
        one = Script("cloth 2 5", "left 1 to 0", "right 1 to 20")
        other = Script("cloth 2 5", "right 5 to 3", "left 1 to 0", "right 1 to 20")
        self.assertEqual(parting(one, other), first_unlike(one, other, 40))
        self.assertEqual(parting(Script("cloth 2 5"), Script("cloth 2 5", "left 5 to 0"))[0], 5)
        self.assertIsNone(parting(Script("cloth 2 5", "left 1 to 0"), Script("cloth 2 5", "left 1 to 0", "carry 0")))

    def test_unlike_with_just_some_numbers(self):
        """One script ends on the left ring at 0, the other one on the right ring at 20."""
        one = Script("cloth 2 5", "right 1 to -50", "left 1 to 0")
        other = Script("cloth 2 5", "left 1 to 50", "right 1 to 20")
        self.assertEqual([model.unlike_rings((2, 5), one.rows[1:], other.rows[1:], n) for n in (10, 11, 12)],
                         [list(range(1, 11)), [], list(range(1, 13))])
        self.assertEqual(parting(one, other), (1, 1))
        self.assertEqual(parting(one, Script("cloth 2 5", "left 1 to 50", "right 1 to 0")), (2, 1))

    def test_far_apart(self):
        one = Script("cloth 1 2", "left 1 to -99", *["carry -99"] * 7, "right 1 to 99")
        other = Script("cloth 1 2", "left 1 to -98", *["carry -99"] * 7, "right 1 to 99")
        told = parting(one, other)
        for n in (told[0] - 1, told[0]):
            rings = model.unlike_rings((1, 2), one.rows[1:], other.rows[1:], n)
            self.assertEqual(rings[:1], [told[1]] if n == told[0] else [])
        self.assertGreater(told[0], 400)


class Needless(Case):
    def test_beside_parting(self):
        for rows in pseudo_scripts("needless", 100, 7, 6):
            script = Script(*rows)
            wanted = [index for index in range(1, len(rows)) if first_unlike(script, without(script, index), 40) is None]
            with self.subTest(rows):
                self.assertEqual(needless(script), tuple(wanted))

    def test_by_hand(self):
        for moves, told in (
            ((), ()),
            (("carry 0",), (1,)),
            (("carry 1",), ()),
            (("left 1 to 0", "left 1 to 0"), (1, 2)),
            (("left 1 to 9", "right 1 to 0", "left 1 to 9"), (1,)),
            (("carry 3", "carry -3"), ()),
            (("off left", "off left"), ()),
            (("on left 0", "off left"), ()),
            (("left 1 to 0", "carry 0", "left 1 to 0", "carry 0"), (1, 2, 3, 4)),
        ):
            with self.subTest(moves):
                self.assertEqual(needless(Script("cloth 2 5", *moves)), told)
                self.assertEqual(needless(Script("cloth 2 5 from -9", *moves)), told)

    def test_the_end_of_the_rail_does_it_all(self):
        self.assertEqual(needless(Script("cloth 2 5 from 9", "left 1 to 3", "left 1 to 4")), (1, 2))
        self.assertEqual(needless(Script("cloth 2 5 from 9", "left 1 to 9", "right 1 to 0")), (1,))

    def test_the_row_of_the_cloth_is_never_needless(self):
        for rows in (("cloth 2 5",), ("cloth 2 5", "carry 0"), ("cloth 2 5 from 0", "left 1 to 0")):
            self.assertNotIn(0, needless(Script(*rows)))


class Pruned(Case):
    def test_step_by_step(self):
        for rows in pseudo_scripts("pruned", 60, 7, 6):
            script = Script(*rows)
            wanted = script
            while needless(wanted):
                wanted = without(wanted, needless(wanted)[0])
            with self.subTest(rows):
                told = pruned(script)
                self.assertIs(type(told), Script)
                self.assertEqual(told.rows, wanted.rows)
                self.assertEqual(needless(told), ())
                self.assertIsNone(parting(told, told))

    def test_by_hand(self):
        for moves, left in (
            ((), ()),
            (("carry 0", "carry 0"), ()),
            (("left 1 to 0", "left 1 to 0", "left 1 to 0"), ("left 1 to 0",)),
            (("carry 2", "carry -2"), ("carry 2", "carry -2")),
            (("right 1 to 8", "left 1 to 0", "left 1 to 0"), ("right 1 to 8", "left 1 to 0")),
        ):
            with self.subTest(moves):
                self.assertEqual(pruned(Script("cloth 2 5", *moves)).rows, ("cloth 2 5", *left))

    def test_what_nothing_is_needless_of_stays(self):
        for moves in (("carry 1",), ("left 2 to 0", "right 2 to 9"), ("on left 0", "off left"), ("off left", "on left 3")):
            script = Script("cloth 2 5 from -9", *moves)
            self.assertEqual(pruned(script), script)

    def test_the_script_is_not_changed(self):
        rows = ("cloth 2 5", "carry 0", "left 1 to 0", "left 1 to 0")
        script = Script(*rows)
        self.assertEqual(pruned(script), pruned(script))
        self.assertEqual(needless(script), needless(Script(*rows)))
        self.assertEqual(script.rows, rows)


if __name__ == "__main__":
    unittest.main()
