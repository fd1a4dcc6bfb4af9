"""drawnrings.desks: trials, by `with` and by `tried`."""

import random
import unittest

from drawnrings.desks import Desk
from drawnrings.errors import Broken, InvalidName, NothingToUndo, UnknownName
from drawnrings.scripts import Script
from tests.helpers import Agreeable, values_of_all_kinds
from tests.test_desks import LEFT, NIGHT, DeskCase, filled, state


class Stop(Exception):
    """An error of the rows' own."""


class Trials(DeskCase):
    def test_as_gives_the_desk(self):
        desk = Desk()
        with desk.trial() as given:
            self.assertIs(given, desk)

    def test_ending_well(self):
        desk = filled()
        with desk.trial():
            desk.put("new", LEFT)
            desk.lift(0)
        self.assertEqual((desk.names, len(desk.wishes), desk.changes), (("attic", "hall", "new"), 2, 9))
        desk.undo()
        desk.undo()
        self.assertEqual(state(desk), state(filled()))

    def test_nothing_in_it(self):
        desk = filled()
        with desk.trial():
            pass
        self.assertEqual(state(desk), state(filled()))

    def test_ending_by_an_exception_of_ones_own(self):
        desk = filled()
        stop = Stop("now")
        with self.assertRaises(Stop) as caught:
            with desk.trial():
                desk.put("new", LEFT)
                desk.lift(0)
                desk.put("hall", LEFT)
                desk.wish(("hall", ("covers", 0, 2, 5)))
                raise stop
        self.assertIs(caught.exception, stop)
        self.assertEqual(state(desk), state(filled()))

    def test_exceptions_of_all_kinds(self):
        for error in (Stop, ValueError, KeyError, ZeroDivisionError, KeyboardInterrupt, SystemExit, StopIteration):
            desk = filled()
            with self.subTest(error.__name__):
                with self.assertRaises(error):
                    with desk.trial():
                        desk.undo()
                        desk.put("b", NIGHT)
                        raise error()
                self.assertEqual(state(desk), state(filled()))

    def test_ending_by_a_deed_that_can_not_be_done(self):
        for call, args, error in (
            (Desk.put, ("hall", LEFT), Broken), (Desk.put, ("Hall", LEFT), InvalidName),
            (Desk.drop, ("x",), UnknownName),
            (Desk.named, ("x",), UnknownName),
        ):
            desk = filled()
            with self.subTest(error.__name__):
                with self.assertRaises(error) as caught:
                    with desk.trial():
                        desk.put("new", LEFT)
                        desk.drop("new")
                        call(desk, *args)
                self.assertIs(type(caught.exception), error)
                self.assertEqual(state(desk), state(filled()))

    def test_an_error_that_is_caught_inside_ends_nothing(self):
        desk = filled()
        with desk.trial():
            desk.put("new", LEFT)
            with self.assertRaises(Broken):
                desk.put("hall", LEFT)
        self.assertEqual((desk.names, desk.changes), (("attic", "hall", "new"), 8))

    def test_changes_that_were_there_before_and_were_taken_back_inside(self):
        desk = filled()
        with self.assertRaises(NothingToUndo):
            with desk.trial():
                while True:
                    desk.undo()
        self.assertEqual(state(desk), state(filled()))
        with self.assertRaises(Stop):
            with desk.trial():
                for _ in range(7):
                    desk.undo()
                desk.put("z", LEFT)
                raise Stop()
        self.assertEqual(state(desk), state(filled()))
        for _ in range(7):
            desk.undo()
        self.assertEqual((desk.changes, desk.names), (0, ()))

    def test_taken_back_inside_for_good(self):
        desk = filled()
        with desk.trial():
            desk.undo()
            desk.undo()
        self.assertEqual((desk.changes, desk.names, len(desk.wishes)), (5, ("attic", "hall", "old"), 2))

    def test_ending_by_return_and_break(self):
        def tell(desk):
            with desk.trial():
                desk.put("new", LEFT)
                return 7

        desk = filled()
        self.assertEqual(tell(desk), 7)
        for _ in range(3):
            with desk.trial():
                desk.drop("new")
                break
        self.assertEqual((desk.names, desk.changes), (("attic", "hall"), 9))

    def test_a_trial_that_has_not_begun_does_nothing(self):
        desk = filled()
        trial = desk.trial()
        desk.lift(0)
        with self.assertRaises(Stop):
            with trial:
                desk.lift(0)
                raise Stop()
        self.assertEqual((len(desk.wishes), desk.changes), (2, 8))

    def test_one_object_again_and_again(self):
        desk = filled()
        trial = desk.trial()
        for many in range(1, 5):
            with trial:
                desk.put("new", NIGHT)
            with self.assertRaises(Stop):
                with trial:
                    desk.undo()
                    raise Stop()
            self.assertEqual(desk.changes, 7 + many)

    def test_equal_to_itself_alone(self):
        desk = Desk()
        trial = desk.trial()
        self.assertIs(trial == trial, True)
        self.assertIs(trial != trial, False)
        for other in (desk.trial(), desk, Agreeable(), *values_of_all_kinds()):
            self.assertIs(trial == other, False)
            self.assertIs(trial != other, True)


class Within(DeskCase):
    """Trials within trials, other objects and the same one."""

    def both(self):
        for same in (False, True):
            desk = filled()
            outer = desk.trial()
            with self.subTest(same=same):
                yield desk, outer, outer if same else desk.trial()

    def test_the_inner_one_fails(self):
        for desk, outer, inner in self.both():
            with outer:
                desk.put("a", NIGHT)
                with self.assertRaises(Stop):
                    with inner:
                        desk.put("b", NIGHT)
                        desk.lift(1)
                        raise Stop()
                self.assertEqual((desk.names, desk.changes, len(desk.wishes)), (("a", "attic", "hall"), 8, 3))
                desk.put("c", NIGHT)
            self.assertEqual((desk.names, desk.changes), (("a", "attic", "c", "hall"), 9))

    def test_the_outer_one_fails(self):
        for desk, outer, inner in self.both():
            with self.assertRaises(Stop):
                with outer:
                    desk.put("a", NIGHT)
                    with inner:
                        desk.put("b", NIGHT)
                    self.assertEqual(desk.changes, 9)
                    raise Stop()
            self.assertEqual(state(desk), state(filled()))

    def test_both_fail(self):
        for desk, outer, inner in self.both():
            with self.assertRaises(Stop):
                with outer:
                    desk.put("a", NIGHT)
                    with inner:
                        desk.put("b", NIGHT)
                        raise Stop()
            self.assertEqual(state(desk), state(filled()))

    def test_one_behind_the_other(self):
        for desk, outer, inner in self.both():
            with self.assertRaises(Stop):
                with outer:
                    for name in ("a", "b", "c"):
                        with inner:
                            desk.put(name, NIGHT)
                    with self.assertRaises(UnknownName):
                        with inner:
                            desk.drop("a")
                            desk.drop("a")
                    self.assertEqual((desk.names, desk.changes), (("a", "attic", "b", "c", "hall"), 10))
                    raise Stop()
            self.assertEqual(state(desk), state(filled()))

    def test_deep_within_itself(self):
        desk = filled()
        trial = desk.trial()

        def go(deep, fails):
            with trial:
                desk.put("a" * deep, NIGHT)
                before = state(desk)
                if deep < 8:
                    try:
                        go(deep + 1, fails)
                    except Stop:
                        self.assertEqual(state(desk), before)
                if deep in fails:
                    raise Stop()

        for fails in ((), (8,), (3, 5), (2, 8), (1,), (4,), (1, 2, 3, 4, 5, 6, 7, 8)):
            before = state(desk)
            with self.subTest(fails):
                if 1 in fails:
                    with self.assertRaises(Stop):
                        go(1, fails)
                    self.assertEqual(state(desk), before)
                else:
                    go(1, fails)
                    kept = min(fails, default=9) - 1
                    self.assertEqual(desk.changes, before[3] + kept)
                    while desk.changes > before[3]:
                        desk.undo()
                    self.assertEqual(state(desk), before)

    def test_trials_of_two_desks(self):
        one, other = filled(), filled()
        with self.assertRaises(Stop):
            with one.trial():
                one.lift(0)
                with other.trial():
                    other.lift(0)
                    other.lift(0)
                raise Stop()
        self.assertEqual(state(one), state(filled()))
        self.assertEqual((len(other.wishes), other.changes), (1, 9))

    def test_both_in_one_row(self):
        desk = filled()
        with self.assertRaises(Stop):
            with desk.trial() as one, desk.trial() as other:
                self.assertIs(one, other)
                desk.lift(0)
                raise Stop()
        self.assertEqual(state(desk), state(filled()))


    def test_the_same_object_when_inner_rows_failed_and_nothing_was_done_since(self):
        for deep in range(1, 5):
            desk = filled()
            trial = desk.trial()

            def go(left):
                with trial:
                    desk.lift(0)
                    if left == 0:
                        raise Stop()
                    try:
                        go(left - 1)
                    except Stop:
                        pass

            desk.wish(("hall", ("covers", 0, 20, 5)))
            desk.wish(("hall", ("covers", 0, 20, 5)))
            with self.subTest(deep):
                # All rows but the innermost ones end well.
                go(deep)
                self.assertEqual((len(desk.wishes), desk.changes), (5 - deep, 9 + deep))
                after = state(desk)
                with trial:
                    self.assertEqual(state(desk), after)
                self.assertEqual(state(desk), after)
                with self.assertRaises(Stop):
                    with trial:
                        self.assertEqual(state(desk), after)
                        raise Stop()
                self.assertEqual(state(desk), after)
                with trial:
                    desk.undo()
                self.assertEqual((len(desk.wishes), desk.changes), (6 - deep, 8 + deep))

    def test_rows_of_two_objects_that_do_not_end_in_turn(self):
        def rows(trial, name):
            with trial:
                desk.put(name, NIGHT)
                yield
                raise Stop()

        for first, names in ((0, ("a", "attic", "hall")), (1, ("attic", "hall"))):
            desk = filled()
            running = [rows(desk.trial(), "a"), rows(desk.trial(), "b")]
            for told in running:
                next(told)
            with self.subTest(first):
                for told in (running[first], running[1 - first]):
                    with self.assertRaises(Stop):
                        next(told)
                self.assertEqual((desk.names, desk.changes), (names, 5 + len(names)))


class Plain:
    """A desk as lists of all that it was, with trials as copies; its wishes all hold."""

    def __init__(self):
        self.past = [((), ())]

    def become(self, names, wishes):
        self.past.append((tuple(sorted(names)), wishes))

    def told(self):
        names, wishes = self.past[-1]
        return names, wishes, len(self.past) - 1


class Compared(DeskCase):
    """Rows of trials within trials by chance, some of them failing, beside a plain desk."""

    def check_alike(self):
        self.assertEqual((self.desk.names, self.desk.wishes, self.desk.changes), self.plain.told())

    def do_something(self):
        names, wishes = self.plain.past[-1]
        kind = self.told.choice(("put", "put", "drop", "wish", "lift", "undo", "undo"))
        if kind == "put":
            name = self.told.choice("abcdef")
            self.desk.put(name, NIGHT)
            self.plain.become({*names, name}, wishes)
        elif kind == "drop":
            free = [name for name in names if name not in [wish[0] for wish in wishes]]
            if free:
                name = self.told.choice(free)
                self.desk.drop(name)
                self.plain.become(set(names) - {name}, wishes)
        elif kind == "wish" and names:
            wish = (self.told.choice(names), ("covers", 0, 20, 5))
            self.desk.wish(wish)
            self.plain.become(names, (*wishes, wish))
        elif kind == "lift" and wishes:
            index = self.told.randrange(len(wishes))
            self.desk.lift(index)
            self.plain.become(names, wishes[:index] + wishes[index + 1:])
        elif kind == "undo" and len(self.plain.past) > 1:
            self.desk.undo()
            self.plain.past.pop()

    def go(self, deep):
        """Do things, some of them within a trial that may fail; what fails is caught here, or further out."""
        for _ in range(self.told.randrange(4)):
            if self.told.random() < 0.5:
                self.do_something()
                self.check_alike()
            elif deep < 6:
                self.go_within(deep)

    def go_within(self, deep):
        past = list(self.plain.past)
        caught = self.told.random() < 0.6
        try:
            with self.told.choice(self.trials) as desk:
                self.assertIs(desk, self.desk)
                self.go(deep + 1)
                if self.told.random() < 0.4:
                    raise Stop()
        except Stop:
            self.plain.past = past
            if self.told.random() < 0.7:
                self.check_alike()
            if not caught:
                raise
        if self.told.random() < 0.5:
            self.check_alike()

    def test_by_chance(self):
        self.told = random.Random("trials")
        for many in (1, 1, 2, 3):
            for number in range(150):
                self.desk, self.plain = Desk(), Plain()
                self.trials = [self.desk.trial() for _ in range(many)]
                with self.subTest(many=many, number=number):
                    for _ in range(4):
                        try:
                            self.go(0)
                        except Stop:
                            pass
                        self.check_alike()
                    while self.desk.changes > 0:
                        self.desk.undo()
                        self.plain.past.pop()
                        self.check_alike()


class Tried(DeskCase):
    def test_what_is_returned(self):
        desk = filled()
        for told in (None, 0, (), [], "x", desk, NIGHT):
            self.assertIs(desk.tried(lambda given: told), told)
        self.assertEqual(desk.tried(len), 2)
        self.assertEqual(desk.tried(action=len), 2)
        self.assertIs(desk.tried(lambda given: given), desk)
        self.assertEqual(state(desk), state(filled()))

    def test_ending_well(self):
        desk = filled()
        self.assertIsNone(desk.tried(lambda given: given.put("new", LEFT)))
        self.assertIsNone(desk.tried(action=lambda given: given.undo()))
        self.assertEqual(state(desk), state(filled()))
        desk.tried(lambda given: given.lift(1))
        self.assertEqual((len(desk.wishes), desk.changes), (2, 8))

    def test_ending_by_an_exception(self):
        stop = Stop()

        def wrong(desk):
            desk.put("new", LEFT)
            desk.lift(2)
            desk.undo()
            raise stop

        desk = filled()
        with self.assertRaises(Stop) as caught:
            desk.tried(wrong)
        self.assertIs(caught.exception, stop)
        self.assertEqual(state(desk), state(filled()))
        with self.assertRaises(Stop):
            desk.tried(action=wrong)
        self.assertEqual(state(desk), state(filled()))

    def test_a_deed_that_can_not_be_done(self):
        def deeds(desk):
            desk.put("new", Script("cloth 2 5"))
            desk.put("hall", LEFT)

        desk = filled()
        self.check_told(desk, Broken, {"index": 0, "shown": 5}, desk.tried, deeds)

    def test_within_each_other(self):
        def inner(desk):
            desk.put("b", NIGHT)
            raise Stop()

        def outer(desk):
            desk.put("a", NIGHT)
            try:
                desk.tried(inner)
            except Stop:
                return desk.names
            return None

        desk = filled()
        self.assertEqual(desk.tried(outer), ("a", "attic", "hall"))
        self.assertEqual(desk.changes, 8)


if __name__ == "__main__":
    unittest.main()
