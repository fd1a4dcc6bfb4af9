"""drawnrings.rails: what is none of a cloth, a standing, a move, a ring or a place, and what is raised first."""

import unittest

from drawnrings.errors import (
    InvalidCloth, InvalidMove, InvalidNumber, InvalidPlace, InvalidStanding, NothingToUndo, TooFew,
)
from drawnrings.rails import Rail, is_standing
from tests.helpers import Case, all_but, is_plain_integer, values_of_all_kinds

NO_CLOTHS = (
    (), (2,), (2, 2), (5, 2), (0, 5), (-1, 5), (2, 10), (9, 10), (9, 9), (1, 10 ** 39), (-10 ** 39, 5),
    (True, 5), (False, 5), (1, True), (0, True), (2, None), (None, 5), ("2", "5"), ("2", 5), (b"2", 5), ((2,), 5),
    ([2], 5), (2, 5, None), (2, 5, True), (2, 5, False), (2, 5, "0"), (2, 5, (0,)), (2, 5, 100), (2, 5, -100),
    (2, 5, 10 ** 39), (2, 2, 0), (5, 2, 0), (0, 5, 0), (2, 10, 0), (2, 5, 0, 0), (2, 5, 0, None), ((2, 5),),
    [2, 5], [2, 5, 0], {2: 5}, {2, 5}, "cloth 2 5", "25", b"25", 25, None, range(2, 4),
)

NO_MOVES = (
    "", " ", "left", "left 0 to 0", "left 6 to 0", "left 1 to 100", "left 1 to -100", "left 01 to 0", "left 1 to 00",
    "left 1 to -0", "left 1 to +1", "left 1  to 0", "left 1 to 0 ", " left 1 to 0", "left 1 to 0\n", "Left 1 to 0",
    "right 0 to 0", "right 6 to 0", "right 1 to 100", "right 1 at 0", "carry", "carry 100", "carry -100", "carry +1",
    "carry 1 1", "off", "off left ", "off left 0", "off 1", "on left", "on left 100", "on left to 0", "on 0",
    "cloth 2 5", "cloth 2 5 from 0", "left 1 to 0\ncarry 1", "undo", "x",
)

SOME = ("some to 0", "some to 99", "some to -99")


def is_cloth(value):
    return isinstance(value, tuple) and value in ((2, 5), (2, 5, 0))


def is_move(value):
    return isinstance(value, str) and value == "left 1 to 0"


def wrong_index(value):
    """The index that InvalidStanding has for a tuple of values_of_all_kinds() and the cloth (2, 5)."""
    if not isinstance(value, tuple) or value == ():
        return None
    for index, place in enumerate(value):
        if not is_plain_integer(place) or index > 0 and not 2 <= place - value[index - 1] <= 5:
            return index
    return "none"


class Cloths(Case):
    def test_what_is_no_cloth(self):
        for cloth in NO_CLOTHS:
            with self.subTest(cloth=cloth):
                self.check_given(InvalidCloth, cloth, Rail, cloth, (100,))
                self.check_given(InvalidCloth, cloth, is_standing, cloth, (100,))
                self.check_given(InvalidCloth, cloth, Rail, places=(100,), cloth=cloth)

    def test_values_of_all_kinds(self):
        for value in all_but(is_cloth):
            with self.subTest(type(value).__name__):
                self.check_given(InvalidCloth, value, Rail, value, (0, 3))
                self.check_given(InvalidCloth, value, is_standing, value, (0, 3))

    def test_the_cloth_is_looked_at_first(self):
        for value in values_of_all_kinds():
            with self.subTest(type(value).__name__):
                self.check_given(InvalidCloth, (2, 2), Rail, (2, 2), value)
                self.check_given(InvalidCloth, None, is_standing, None, value)

    def test_least_and_greatest_cloths(self):
        for cloth in ((1, 2), (1, 9), (8, 9), (1, 2, -99), (8, 9, 99), (1, 9, 0)):
            with self.subTest(cloth=cloth):
                self.assertIs(is_standing(cloth, (200,)), True)
                self.assertEqual(Rail(cloth, (200,)).cloth, cloth)

    def test_an_end_that_was_carried_beyond_what_can_be_passed(self):
        rail = Rail((2, 5, 99), (100, 103))
        rail.move("carry 1")
        self.assertEqual(rail.cloth, (2, 5, 100))
        self.check_raises(InvalidCloth, {"given": (2, 5, 100)}, Rail, rail.cloth, rail.places)
        self.check_raises(InvalidCloth, {"given": (2, 5, 100)}, is_standing, rail.cloth, rail.places)


class Standings(Case):
    def test_values_of_all_kinds(self):
        for value in values_of_all_kinds():
            index = wrong_index(value)
            with self.subTest(type(value).__name__, index=index):
                if index == "none":
                    self.assertIs(is_standing((2, 5), value), True)
                    self.assertEqual(Rail((2, 5), value).places, value)
                else:
                    self.assertIs(is_standing((2, 5), value), False)
                    self.check_raises(InvalidStanding, {"index": index}, Rail, (2, 5), value)

    def test_values_of_all_kinds_among_the_places(self):
        for value in all_but(is_plain_integer):
            with self.subTest(type(value).__name__):
                for places, index in (((value,), 0), ((value, 3), 0), ((0, value), 1), ((0, 3, value, 9), 2)):
                    self.assertIs(is_standing((2, 5), places), False)
                    self.check_raises(InvalidStanding, {"index": index}, Rail, (2, 5), places)
                    self.assertIs(is_standing((2, 5, -1), places), False)
                    self.check_raises(InvalidStanding, {"index": index}, Rail, (2, 5, -1), places)

    def test_lists_are_no_tuples(self):
        self.assertIs(is_standing((2, 5), [0, 3]), False)
        self.check_raises(InvalidStanding, {"index": None}, Rail, (2, 5), [0, 3])
        self.check_raises(InvalidStanding, {"index": None}, Rail, (2, 5), [])


class Steps(Case):
    """Behind each error the rail is what it was."""

    def setUp(self):
        self.rail = Rail((2, 5, -4), (-3, 0, 3))
        self.rail.move("carry 1")
        self.rail.move("off left")

    def tearDown(self):
        self.assertEqual((self.rail.cloth, self.rail.places, self.rail.changes), ((2, 5, -3), (1, 4), 2))
        self.rail.undo()
        self.assertEqual((self.rail.cloth, self.rail.places, self.rail.changes), ((2, 5, -3), (-2, 1, 4), 1))
        self.rail.undo()
        self.assertEqual((self.rail.cloth, self.rail.places, self.rail.changes), ((2, 5, -4), (-3, 0, 3), 0))
        self.check_raises(NothingToUndo, {}, self.rail.undo)

    def test_what_is_no_move(self):
        for move in (*NO_MOVES, *SOME):
            with self.subTest(move):
                self.check_given(InvalidMove, move, self.rail.move, move)

    def test_values_of_all_kinds_as_moves(self):
        for value in all_but(is_move):
            with self.subTest(type(value).__name__):
                self.check_given(InvalidMove, value, self.rail.move, value)
                self.check_given(InvalidMove, value, self.rail.move, move=value)

    def test_too_few_rings_for_a_drawing(self):
        for side in ("left", "right"):
            for ring in (3, 4, 5):
                move = f"{side} {ring} to 0"
                with self.subTest(move):
                    self.check_given(TooFew, move, self.rail.move, move)
            self.check_raises(InvalidMove, {"given": f"{side} 6 to 0"}, self.rail.move, f"{side} 6 to 0")

    def test_indexes_of_no_ring(self):
        for index in (-1, -2, 2, 3, 10 ** 39, -10 ** 39, True, False):
            with self.subTest(index):
                self.check_given(InvalidNumber, index, self.rail.draw, index, 0)
        for value in all_but(is_plain_integer):
            with self.subTest(type(value).__name__):
                self.check_given(InvalidNumber, value, self.rail.draw, value, 0)

    def test_what_is_no_place(self):
        for value in all_but(is_plain_integer):
            with self.subTest(type(value).__name__):
                self.check_given(InvalidPlace, value, self.rail.draw, 0, value)
                self.check_given(InvalidPlace, value, self.rail.draw, index=1, place=value)

    def test_the_index_is_looked_at_first(self):
        for value in values_of_all_kinds():
            with self.subTest(type(value).__name__):
                self.check_given(InvalidNumber, 2, self.rail.draw, 2, value)
                self.check_given(InvalidNumber, None, self.rail.draw, None, value)


class TooFewRings(Case):
    def test_just_as_many_rings_as_a_drawing_needs(self):
        for side in ("left", "right"):
            for ring in range(1, 6):
                for rings in range(1, 8):
                    rail = Rail((2, 5), tuple(range(0, 3 * rings, 3)))
                    move = f"{side} {ring} to 50"
                    with self.subTest(move, rings=rings):
                        if ring <= rings:
                            self.assertEqual(rail.move(move)[ring - 1 if side == "left" else -ring], 50)
                        else:
                            self.check_given(TooFew, move, rail.move, move)
                            self.assertEqual(rail.changes, 0)

    def test_the_last_ring_is_not_taken_off(self):
        for cloth in ((2, 5), (2, 5, 0)):
            for move in ("off left", "off right"):
                rail = Rail(cloth, (0,))
                with self.subTest(move, cloth=cloth):
                    self.check_given(TooFew, move, rail.move, move)
                    self.assertEqual((rail.places, rail.changes), ((0,), 0))
                    rail.move("on left 7")
                    self.assertEqual(len(rail.move(move)), 1)
                    self.check_given(TooFew, move, rail.move, move)

    def test_one_ring_is_enough_for_all_else(self):
        for move in ("left 1 to 3", "right 1 to 3", "carry 3", "on left 3", "on right 3"):
            self.assertIn(3, Rail((2, 5), (0,)).move(move))


if __name__ == "__main__":
    unittest.main()
