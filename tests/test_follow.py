"""drawnrings.rails: rails that follow scripts, and led."""

import itertools
import unittest

from drawnrings.errors import InvalidCloth, InvalidStanding, NotAScript, TooFew, Unknown
from drawnrings.rails import Rail, led
from drawnrings.scripts import Script
from tests import model
from tests.helpers import Case, values_of_all_kinds

MOVES = (
    "left 1 to -2", "left 3 to 9", "right 1 to 8", "right 2 to -1", "carry 4", "off left", "off right",
    "on left 3", "on right 5",
)


def others():
    """Values of all kinds that are no scripts."""
    return [value for value in values_of_all_kinds() if not isinstance(value, Script)]


class Following(Case):
    def test_all_short_scripts(self):
        for cloth, row in (((2, 5), "cloth 2 5"), ((2, 5, -3), "cloth 2 5 from -3")):
            for many in range(4):
                for moves in itertools.product(MOVES, repeat=many):
                    self.check_script(cloth, (-1, 2, 7, 9), Script(row, *moves), moves)

    def check_script(self, cloth, places, script, moves):
        states = [(cloth, places)]
        for move in moves:
            if len(states[-1][1]) < model.needs(move):
                return self.check_too_few(cloth, places, script, move)
            states.append(model.moved(states[-1], move))
        rail = Rail(cloth, places)
        with self.subTest(cloth=cloth, moves=moves):
            self.assertEqual(led(script, places), states[-1][1])
            self.assertEqual(rail.follow(script), states[-1][1])
            for changes in reversed(range(len(states))):
                self.assertEqual((rail.cloth, rail.places), states[changes])
                self.assertEqual(rail.changes, changes)
                if changes > 0:
                    self.assertIsNone(rail.undo())

    def check_too_few(self, cloth, places, script, move):
        rail = Rail(cloth, places)
        with self.subTest(cloth=cloth, script=str(script)):
            self.check_raises(TooFew, {"given": move}, led, script, places)
            self.check_raises(TooFew, {"given": move}, rail.follow, script)
            self.assertEqual((rail.cloth, rail.places, rail.changes), (cloth, places, 0))

    def test_least_number_is_just_enough(self):
        for moves in (
            ("off left", "left 3 to -4", "on right 7"), ("right 5 to 0",), ("on left 0", "left 5 to 0", "off right"),
            ("off left",) * 9 + ("left 2 to 1",), ("on left 0", "off right", "right 4 to 0"), ("off right", "off left"),
        ):
            script = Script("cloth 1 9", *moves)
            for rings in range(1, script.least + 4):
                places = tuple(range(0, 4 * rings, 4))
                with self.subTest(moves, rings=rings):
                    if rings < script.least:
                        with self.assertRaises(TooFew):
                            led(script, places)
                    else:
                        self.assertEqual(len(led(script, places)), rings + script.change)

    def test_no_moves(self):
        rail = Rail((2, 5), (0, 3))
        self.assertEqual(rail.follow(Script("cloth 2 5")), (0, 3))
        self.assertEqual(rail.changes, 0)
        self.assertEqual(led(Script("cloth 2 5"), (0, 3)), (0, 3))

    def test_by_name(self):
        script = Script("cloth 2 5", "carry 1")
        self.assertEqual(Rail((2, 5), (0, 3)).follow(script=script), (1, 4))
        self.assertEqual(led(places=(0, 3), script=script), (1, 4))

    def test_behind_other_moves(self):
        rail = Rail((2, 5), (0, 3))
        rail.move("carry 1")
        self.assertEqual(rail.follow(Script("cloth 2 5", "carry 2", "on right 9")), (3, 6, 9))
        self.assertEqual(rail.follow(Script("cloth 2 5", "off left")), (6, 9))
        self.assertEqual(rail.changes, 4)
        rail.undo()
        rail.undo()
        self.assertEqual((rail.places, rail.changes), ((3, 6), 2))

    def test_the_script_is_not_changed(self):
        script = Script("cloth 2 5 from 0", "carry 2", "off left")
        Rail((2, 5, 0), (0, 3)).follow(script)
        led(script, (0, 3))
        self.assertEqual(script, Script("cloth 2 5 from 0", "carry 2", "off left"))
        self.assertEqual(script.cloth, (2, 5, 0))


class FollowErrors(Case):
    """Where an error is raised, nothing is done."""

    def setUp(self):
        self.rail = Rail((2, 5, 0), (1, 4, 8))
        self.rail.move("carry 3")

    def tearDown(self):
        self.assertEqual((self.rail.cloth, self.rail.places, self.rail.changes), ((2, 5, 3), (4, 7, 11), 1))

    def test_what_is_no_script(self):
        for value in others():
            with self.subTest(type(value).__name__):
                self.check_given(NotAScript, value, self.rail.follow, value)
                self.check_given(NotAScript, value, self.rail.follow, script=value)

    def test_unknown_with_the_index_of_the_first_row(self):
        for rows, index in (
            (("some to 0",), 1), (("carry 1", "some to 0"), 2), (("carry 1", "some to 0", "some to 1"), 2),
            (("some to 0", "some to 0"), 1), (("carry 1",) * 9 + ("some to 0",), 10),
        ):
            with self.subTest(rows):
                self.check_raises(Unknown, {"index": index}, self.rail.follow, Script("cloth 2 5 from 3", *rows))

    def test_unknown_comes_before_all_else(self):
        self.check_raises(Unknown, {"index": 1}, self.rail.follow, Script("cloth 2 5", "some to 0"))
        script = Script("cloth 2 6", "left 5 to 0", "some to 0")
        self.check_raises(Unknown, {"index": 2}, self.rail.follow, script)

    def test_another_cloth(self):
        for row in ("cloth 2 5", "cloth 2 5 from 0", "cloth 2 5 from 4", "cloth 2 6 from 3", "cloth 1 5 from 3"):
            for moves in ((), ("carry 1",), ("left 5 to 0",)):
                with self.subTest(row, moves=moves):
                    self.check_raises(InvalidCloth, {"given": (2, 5, 3)}, self.rail.follow, Script(row, *moves))

    def test_too_few_with_the_first_move_that_cannot_be_done(self):
        for moves, given in (
            (("left 4 to 0",), "left 4 to 0"),
            (("carry 1", "right 5 to 0", "left 4 to 0"), "right 5 to 0"),
            (("off left", "left 3 to 1", "off left"), "left 3 to 1"),
            (("off left", "off right", "off left", "off right"), "off left"),
            (("on left 0", "left 4 to 1", "off left", "right 4 to 2"), "right 4 to 2"),
        ):
            with self.subTest(moves):
                script = Script("cloth 2 5 from 3", *moves)
                self.check_raises(TooFew, {"given": given}, self.rail.follow, script)


class FollowingCarriedRails(Case):
    def test_the_cloth_as_it_is_now(self):
        rail = Rail((2, 5, 0), (1, 4))
        script = Script("cloth 2 5 from 0", "carry 3")
        self.assertEqual(rail.follow(script), (4, 7))
        self.check_raises(InvalidCloth, {"given": (2, 5, 3)}, rail.follow, script)
        self.assertEqual(rail.follow(Script("cloth 2 5 from 3", "left 1 to 0")), (3, 7))
        rail.undo()
        rail.undo()
        self.assertEqual(rail.follow(script), (4, 7))

    def test_an_end_beyond_what_a_script_can_have(self):
        rail = Rail((2, 5, 99), (100,))
        rail.move("carry 99")
        self.check_raises(InvalidCloth, {"given": (2, 5, 198)}, rail.follow, Script("cloth 2 5 from 99"))


class LedErrors(Case):
    def test_what_is_no_script(self):
        for value in others():
            with self.subTest(type(value).__name__):
                self.check_given(NotAScript, value, led, value, (0, 3))
                self.check_given(NotAScript, value, led, script=value, places=None)

    def test_unknown_comes_before_the_standing(self):
        script = Script("cloth 2 5", "left 5 to 0", "some to 0", "some to 1")
        for value in values_of_all_kinds():
            with self.subTest(type(value).__name__):
                self.check_raises(Unknown, {"index": 2}, led, script, value)
        self.check_raises(Unknown, {"index": 2}, led, script, (0, 3))

    def test_what_is_no_standing_for_the_cloth_of_the_script(self):
        for row, places, index in (
            ("cloth 2 5", (), None), ("cloth 2 5", [0, 3], None), ("cloth 2 5", None, None), ("cloth 2 5", 0, None),
            ("cloth 2 5", "0", None), ("cloth 2 5", (0, 6), 1), ("cloth 2 5", (0, 3, 4), 2),
            ("cloth 2 5", (0, True), 1), ("cloth 2 5", ("0",), 0), ("cloth 3 4", (0, 3, 5, 9), 2),
            ("cloth 2 5 from 1", (0, 3), 0), ("cloth 2 5 from 1", (1, 3, 9), 2),
        ):
            for moves in ((), ("carry 1",), ("left 5 to 0",)):
                with self.subTest(row, places=places, moves=moves):
                    self.check_raises(InvalidStanding, {"index": index}, led, Script(row, *moves), places)

    def test_values_of_all_kinds_that_are_no_tuples(self):
        for value in values_of_all_kinds():
            if not isinstance(value, tuple):
                with self.subTest(type(value).__name__):
                    self.check_raises(InvalidStanding, {"index": None}, led, Script("cloth 2 5"), value)

    def test_too_few_rings(self):
        script = Script("cloth 2 5", "off left", "off right", "left 2 to 0", "off right")
        for rings, given in ((1, "off left"), (2, "off right"), (3, "left 2 to 0")):
            places = tuple(range(0, 3 * rings, 3))
            self.check_raises(TooFew, {"given": given}, led, script, places)
        self.assertEqual(led(script, (0, 3, 6, 9)), (-2,))


if __name__ == "__main__":
    unittest.main()
