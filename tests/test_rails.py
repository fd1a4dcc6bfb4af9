"""drawnrings.rails: standings, moves, drawings, and taking back, with and without an end of the rail."""

import itertools
import unittest

from drawnrings.errors import InvalidStanding, NothingToUndo
from drawnrings.rails import Rail, is_standing, led
from drawnrings.scripts import Script
from tests import model
from tests.helpers import Agreeable, Case, values_of_all_kinds

CLOTHS = ((1, 2), (2, 5), (3, 4), (1, 2, 0), (2, 5, -1), (3, 4, 2))

MOVES = (
    "left 1 to -7", "left 1 to 0", "left 1 to 9", "left 2 to -3", "left 2 to 6", "left 2 to 20", "left 3 to -1",
    "left 3 to 8", "right 1 to -9", "right 1 to 5", "right 1 to 30", "right 2 to -4", "right 2 to 7",
    "right 3 to 0", "right 3 to 12", "carry 0", "carry 5", "carry -6", "off left", "off right",
    "on left -5", "on left 3", "on left 20", "on right -5", "on right 4", "on right 20",
)


def standings(cloth, rings):
    """Standings that begin at the end of the rail, or a little to the right of it."""
    first = cloth[2] if len(cloth) == 3 else -2
    return model.standings(cloth, rings, (first, first + 1, first + 4))


class Examples(Case):
    def test_moves_drawings_and_taking_back(self):
        night = Script("cloth 2 5", "left 1 to 0", "right 1 to 20")
        rail = Rail((2, 5), (0, 3, 7, 9))
        self.assertEqual(rail.move("left 1 to 4"), (4, 6, 8, 10))
        self.assertEqual(rail.move("right 2 to 20"), (10, 15, 20, 22))
        self.assertEqual(rail.draw(0, -3), (-3, 2, 7, 12))
        self.assertIsNone(rail.undo())
        self.assertEqual(rail.places, (10, 15, 20, 22))
        self.assertEqual(rail.move("on left 11"), (11, 13, 15, 20, 22))
        self.assertEqual(rail.move("off right"), (11, 13, 15, 20))
        self.assertEqual(led(night, (5, 7, 9, 11, 13, 15)), (0, 5, 9, 11, 15, 20))
        self.assertEqual(led(night, (3,)), (20,))
        self.assertIs(is_standing((2, 5), (0, 6)), False)
        self.assertEqual((rail.changes, len(rail)), (4, 4))

    def test_ends(self):
        self.assertEqual(led(Script("cloth 2 5 from 0", "right 1 to 3"), (1, 5, 9)), (0, 2, 4))
        self.assertIs(is_standing((2, 5, 0), (-1, 3)), False)
        self.assertEqual(Rail((2, 5, 4), (4, 6)).move("left 2 to 1"), (4, 6))
        self.assertEqual(Rail((2, 5, 4), (4, 6, 11, 16)).move("left 2 to 1"), (4, 6, 11, 16))

    def test_following(self):
        night = Script("cloth 2 5", "left 1 to 0", "right 1 to 20")
        rail = Rail((2, 5), (0, 3, 7, 9))
        self.assertEqual(rail.follow(night), (5, 10, 15, 20))
        self.assertEqual((rail.changes, rail.undo(), rail.places), (2, None, (0, 3, 7, 9)))

    def test_wrong_standing(self):
        self.check_raises(InvalidStanding, {"index": 2}, Rail, (2, 5), (0, 3, 4))


class Standings(Case):
    def test_all_gaps(self):
        for near, far in itertools.combinations(range(1, 10), 2):
            for gap in range(-2, 12):
                fits = near <= gap <= far
                with self.subTest(near=near, far=far, gap=gap):
                    self.assertIs(is_standing((near, far), (7, 7 + gap)), fits)
                    self.assertIs(is_standing((near, far, -99), (7, 7 + gap)), fits)

    def test_the_end_of_the_rail(self):
        for end in (-99, -1, 0, 1, 99):
            for first in range(end - 3, end + 4):
                with self.subTest(end=end, first=first):
                    self.assertIs(is_standing((2, 5, end), (first,)), first >= end)
                    self.assertIs(is_standing((2, 5, end), (first, first + 3)), first >= end)

    def test_any_place_without_an_end(self):
        for first in (-10 ** 39, -100, -1, 0, 1, 100, 10 ** 39):
            self.assertIs(is_standing((2, 5), (first,)), True)
            self.assertIs(is_standing((2, 5), (first, first + 5, first + 7)), True)
            self.assertIs(is_standing(cloth=(2, 5), places=(first, first + 5, first + 11)), False)

    def test_all_small_tuples(self):
        for cloth in CLOTHS:
            for places in itertools.product(range(-3, 7), repeat=3):
                with self.subTest(cloth=cloth, places=places):
                    self.assertIs(is_standing(cloth, places), model.hangs(cloth, places))

    def test_a_rail_has_what_it_was_given(self):
        for cloth in CLOTHS:
            for rings in (1, 2, 3):
                for places in standings(cloth, rings):
                    rail = Rail(cloth, places)
                    with self.subTest(cloth=cloth, places=places):
                        self.assertEqual(rail.cloth, cloth)
                        self.assertEqual(rail.places, places)
                        self.assertIs(type(rail.places), tuple)
                        self.assertEqual((rail.changes, len(rail)), (0, rings))
        rail = Rail(places=(0, 3), cloth=(2, 5))
        self.assertEqual((rail.cloth, rail.places), ((2, 5), (0, 3)))

    def test_the_index_of_the_first_wrong_place(self):
        for cloth, places, index in (
            ((2, 5), (), None),
            ((2, 5), (0, 1), 1),
            ((2, 5), (0, 0), 1),
            ((2, 5), (0, -3), 1),
            ((2, 5), (0, 2, 8), 2),
            ((2, 5), (0, 2, 8, 8), 2),
            ((2, 5), (0, 5, 10, 15, 16), 4),
            ((2, 5), (0, 5, 10, 15, 21), 4),
            ((2, 5), (None, 1), 0),
            ((2, 5), (True, 3), 0),
            ((2, 5), (0, True), 1),
            ((1, 9), (0, True), 1),
            ((2, 5), (0, 3, "6"), 2),
            ((2, 5), (0, "3", 4), 1),
            ((2, 5), (0, 3, (6,)), 2),
            ((2, 5), (0, 9, None), 1),
            ((2, 5), ("0", None), 0),
            ((2, 5, 4), (3,), 0),
            ((2, 5, 4), (3, 3), 0),
            ((2, 5, 4), (3, 6), 0),
            ((2, 5, 4), (4, 5), 1),
            ((2, 5, 4), (-10 ** 39,), 0),
            ((2, 5, -99), (-100,), 0),
        ):
            with self.subTest(cloth=cloth, places=places):
                self.check_raises(InvalidStanding, {"index": index}, Rail, cloth, places)
                self.assertIs(is_standing(cloth, places), False)


class Moving(Case):
    def check_move(self, cloth, places, move):
        rail = Rail(cloth, places)
        cloth_then, places_then = model.moved((cloth, places), move)
        with self.subTest(cloth=cloth, places=places, move=move):
            self.assertEqual(rail.move(move), places_then)
            self.assertEqual(rail.places, places_then)
            self.assertIs(type(rail.places), tuple)
            self.assertEqual(rail.cloth, cloth_then)
            self.assertEqual((rail.changes, len(rail)), (1, len(places_then)))
            self.assertTrue(model.hangs(rail.cloth, rail.places))
            self.assertIsNone(rail.undo())
            self.assertEqual((rail.cloth, rail.places, rail.changes), (cloth, places, 0))

    def test_all_moves_from_many_standings(self):
        for cloth in CLOTHS:
            for rings in (1, 2, 3, 4):
                for places in standings(cloth, rings)[::3 if rings == 4 else 1]:
                    for move in MOVES:
                        if rings >= model.needs(move):
                            self.check_move(cloth, places, move)

    def test_all_rings_that_can_be_named(self):
        places = (0, 2, 7, 10, 14, 16, 21)
        for side, ring, place in itertools.product(("left", "right"), range(1, 6), (-99, -30, 1, 8, 13, 40, 99)):
            for cloth in ((2, 5), (2, 5, 0), (2, 5, -20)):
                self.check_move(cloth, places, f"{side} {ring} to {place}")

    def test_two_moves_one_behind_the_other(self):
        for cloth in ((2, 5), (2, 5, -1)):
            for first, second in itertools.product(MOVES, repeat=2):
                state = (cloth, (-1, 2, 7, 9))
                rail = Rail(*state)
                for move in (first, second):
                    state = model.moved(state, move)
                    with self.subTest(cloth=cloth, first=first, second=second):
                        self.assertEqual(rail.move(move), state[1])
                        self.assertEqual((rail.cloth, rail.places), state)

    def test_some_moves_by_hand(self):
        for cloth, places, move, then in (
            ((2, 5), (0,), "left 1 to 7", (7,)),
            ((2, 5), (0,), "right 1 to -7", (-7,)),
            ((2, 5), (0, 3), "left 1 to 1", (1, 3)),
            ((2, 5), (0, 3), "left 1 to 2", (2, 4)),
            ((2, 5), (0, 3), "left 1 to -2", (-2, 3)),
            ((2, 5), (0, 3), "left 1 to -3", (-3, 2)),
            ((2, 5), (0, 3, 6), "right 2 to 5", (0, 5, 7)),
            ((2, 5), (0, 3, 6), "right 2 to 6", (1, 6, 8)),
            ((2, 5), (0, 3, 6), "left 2 to -4", (-6, -4, 1)),
            ((2, 5), (0, 3), "carry -4", (-4, -1)),
            ((2, 5), (0, 3), "off left", (3,)),
            ((2, 5), (0, 3), "off right", (0,)),
            ((2, 5), (0, 3), "on left 0", (0, 2, 4)),
            ((2, 5), (0, 3), "on left -2", (-2, 0, 3)),
            ((2, 5), (0, 3), "on left -9", (-9, -4, 1)),
            ((2, 5), (0, 3), "on left 50", (50, 52, 54)),
            ((2, 5), (0, 3), "on right 3", (-1, 1, 3)),
            ((2, 5), (0, 3), "on right 6", (0, 3, 6)),
            ((2, 5), (0, 3), "on right 20", (10, 15, 20)),
            ((2, 5), (0, 3), "on right -50", (-54, -52, -50)),
        ):
            with self.subTest(cloth=cloth, places=places, move=move):
                self.assertEqual(Rail(cloth, places).move(move), then)
                self.assertEqual(Rail(cloth, places).move(move=move), then)

    def test_beyond_the_end_of_the_rail_by_hand(self):
        for cloth, places, move, then in (
            ((2, 5, 4), (9, 12, 16), "left 1 to 3", (4, 9, 14)),
            ((2, 5, 4), (9, 12, 16), "left 1 to 4", (4, 9, 14)),
            ((2, 5, 4), (9, 12, 16), "left 1 to 5", (5, 10, 15)),
            ((2, 5, 4), (9, 12, 16), "left 2 to -99", (4, 6, 11)),
            ((2, 5, 4), (9, 12, 16), "left 2 to 7", (5, 7, 12)),
            ((2, 5, 4), (9, 12, 16), "left 3 to 7", (4, 6, 8)),
            ((2, 5, 4), (9, 12, 16), "right 1 to 9", (5, 7, 9)),
            ((2, 5, 4), (9, 12, 16), "right 3 to 0", (4, 9, 14)),
            ((2, 5, 4), (9, 12, 16), "on left 0", (4, 9, 12, 16)),
            ((2, 5, 4), (4, 6, 8), "on left 0", (4, 6, 8, 10)),
            ((2, 5, 4), (9, 12, 16), "on right 0", (4, 6, 8, 10)),
            ((2, 5, 4), (4, 6, 8), "off left", (6, 8)),
            ((1, 3, -5), (-5, -4), "right 1 to -9", (-5, -4)),
        ):
            with self.subTest(cloth=cloth, places=places, move=move):
                self.assertEqual(Rail(cloth, places).move(move), then)

    def test_carrying_moves_the_end_even_beyond_what_can_be_passed(self):
        rail = Rail((2, 5, 90), (92, 95))
        self.assertEqual(rail.move("carry 9"), (101, 104))
        self.assertEqual(rail.cloth, (2, 5, 99))
        self.assertEqual(rail.move("carry 99"), (200, 203))
        self.assertEqual(rail.cloth, (2, 5, 198))
        self.assertEqual(rail.move("left 1 to 99"), (198, 203))
        self.assertEqual(rail.move("left 2 to 0"), (198, 200))
        self.assertEqual(rail.move("on right -99"), (198, 200, 202))
        for _ in range(3):
            rail.undo()
        self.assertEqual((rail.cloth, rail.places), ((2, 5, 198), (200, 203)))
        rail.undo()
        self.assertEqual((rail.cloth, rail.places), ((2, 5, 99), (101, 104)))
        self.assertEqual(rail.draw(0, 0), (99, 104))
        self.assertEqual(rail.move("carry -99"), (0, 5))
        self.assertEqual(rail.move("carry -99"), (-99, -94))
        self.assertEqual(rail.move("carry -1"), (-100, -95))
        self.assertEqual(rail.cloth, (2, 5, -100))
        self.assertEqual(rail.move("right 1 to -99"), (-100, -98))

    def test_carrying_without_an_end_leaves_the_cloth(self):
        rail = Rail((2, 5), (0, 3))
        rail.move("carry 99")
        self.assertEqual(rail.cloth, (2, 5))

    def test_many_rings_and_great_places(self):
        far = 10 ** 39
        places = tuple(range(far, far + 3000, 3))
        rail = Rail((2, 5), places)
        self.assertEqual(rail.move("carry 1")[:2], (far + 1, far + 4))
        self.assertEqual(rail.move("left 1 to 0"), tuple(range(0, 5000, 5)))
        self.assertEqual(rail.move("right 1 to 0"), tuple(range(-1998, 1, 2)))


class Drawing(Case):
    def test_each_ring_to_each_place(self):
        for cloth in CLOTHS:
            for rings in (1, 2, 3):
                for places in standings(cloth, rings):
                    for index, place in itertools.product(range(rings), range(-12, 24, 3)):
                        rail = Rail(cloth, places)
                        then = model.drawn(cloth, places, index, place)
                        with self.subTest(cloth=cloth, places=places, index=index, place=place):
                            self.assertEqual(rail.draw(index, place), then)
                            self.assertEqual((rail.places, rail.cloth, rail.changes), (then, cloth, 1))
                            self.assertTrue(model.hangs(cloth, then))

    def test_rings_that_no_move_can_name(self):
        places = tuple(range(0, 60, 3))
        for index in range(20):
            self.assertEqual(Rail((2, 5), places).draw(index, 500), model.drawn((2, 5), places, index, 500))
            self.assertEqual(Rail((2, 5, 0), places).draw(index, -500), model.drawn((2, 5, 0), places, index, -500))

    def test_any_integer(self):
        far = 10 ** 39
        self.assertEqual(Rail((2, 5), (0, 3)).draw(1, far), (far - 5, far))
        self.assertEqual(Rail((2, 5), (0, 3)).draw(index=0, place=-far), (-far, -far + 5))
        self.assertEqual(Rail((2, 5, -1), (0, 3)).draw(place=-far, index=1), (-1, 1))
        self.assertEqual(Rail((2, 5), (0, 3)).draw(0, 100), (100, 102))


class TakingBack(Case):
    def test_nothing_at_the_beginning(self):
        rail = Rail((2, 5), (0, 3))
        self.check_raises(NothingToUndo, {}, rail.undo)
        self.assertEqual((rail.cloth, rail.places, rail.changes), ((2, 5), (0, 3), 0))

    def test_moves_and_drawings_by_which_nothing_moved(self):
        rail = Rail((2, 5), (0, 3))
        self.assertEqual(rail.move("left 1 to 0"), (0, 3))
        self.assertEqual(rail.move("carry 0"), (0, 3))
        self.assertEqual(rail.draw(1, 3), (0, 3))
        for changes in (3, 2, 1):
            self.assertEqual(rail.changes, changes)
            self.assertIsNone(rail.undo())
            self.assertEqual(rail.places, (0, 3))
        self.check_raises(NothingToUndo, {}, rail.undo)
        self.assertEqual(rail.changes, 0)

    def test_step_by_step(self):
        rail = Rail((2, 5, -1), (0, 3))
        seen = []
        for step in ("left 1 to 9", "carry 8", "on left 3", "off right", "right 2 to 70", "carry -3", "on right 0"):
            seen.append((rail.cloth, rail.places, rail.changes))
            rail.move(step)
        while seen:
            self.assertIsNone(rail.undo())
            self.assertEqual((rail.cloth, rail.places, rail.changes), seen.pop())
        self.check_raises(NothingToUndo, {}, rail.undo)

    def test_what_is_done_behind_a_taking_back(self):
        rail = Rail((2, 5), (0, 3))
        rail.move("carry 1")
        rail.move("carry 2")
        rail.undo()
        rail.move("carry 7")
        self.assertEqual((rail.places, rail.changes), ((8, 11), 2))
        rail.undo()
        self.assertEqual((rail.places, rail.changes), ((1, 4), 1))
        rail.undo()
        self.assertEqual((rail.places, rail.changes), ((0, 3), 0))
        self.check_raises(NothingToUndo, {}, rail.undo)

    def test_what_was_handed_out_stays_what_it_was(self):
        rail = Rail((2, 5, 0), (0, 3))
        cloth, places = rail.cloth, rail.places
        moved = rail.move("carry 5")
        rail.move("left 1 to 50")
        rail.undo()
        rail.undo()
        self.assertEqual((cloth, places, moved), ((2, 5, 0), (0, 3), (5, 8)))


class BeingOne(Case):
    def test_equal_to_itself_alone(self):
        rail = Rail((2, 5), (0, 3))
        self.assertIs(rail == rail, True)
        self.assertIs(rail != rail, False)
        for other in [Rail((2, 5), (0, 3)), (0, 3), *values_of_all_kinds()]:
            with self.subTest(type(other).__name__):
                self.assertIs(rail == other, False)
                self.assertIs(rail != other, True)
                if not isinstance(other, Agreeable):
                    self.assertIs(other == rail, False)

    def test_always_true(self):
        rail = Rail((2, 5), (0,))
        self.assertIs(bool(rail), True)
        rail.move("on left 0")
        self.assertIs(bool(rail), True)

    def test_rails_do_not_share_anything(self):
        one = Rail((2, 5), (0, 3))
        other = Rail((2, 5), (0, 3))
        one.move("carry 1")
        self.assertEqual((other.places, other.changes), ((0, 3), 0))
        self.check_raises(NothingToUndo, {}, other.undo)

    def test_length_is_the_number_of_rings(self):
        rail = Rail((2, 5), (0, 3))
        for move, rings in (("on left 0", 3), ("on right 0", 4), ("off left", 3), ("off right", 2), ("carry 1", 2)):
            rail.move(move)
            self.assertEqual(len(rail), rings)


if __name__ == "__main__":
    unittest.main()
