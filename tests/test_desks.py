"""drawnrings.desks: scripts under names, wishes, and taking back; trials have a file of their own."""

import random
import unittest

from drawnrings.desks import Desk
from drawnrings.errors import (
    Broken, InUse, InvalidName, InvalidNumber, InvalidWish, NotAScript, NothingToUndo, UnknownName,
)
from drawnrings.mends import fault
from drawnrings.scripts import Script
from tests.helpers import Agreeable, Case, all_but, values_of_all_kinds

NIGHT = Script("cloth 2 5", "left 1 to 0", "right 1 to 20")
NIGHT_AGAIN = Script("cloth 2 5", "left 1 to 3", "left 1 to 0", "right 1 to 20")
LEFT = Script("cloth 2 5", "left 1 to 0")
TWICE = Script("cloth 2 5", "left 1 to 9", "left 1 to 0")
NEAR = Script("cloth 2 5", "left 1 to 0", "right 1 to 19")
STILL = Script("cloth 2 3", "left 1 to 0", "right 1 to 20", "left 1 to 0")
CHILD = Script("cloth 2 5", "some to 0", "right 1 to 30")
OFF = Script("cloth 2 5", "off left")
WIDE = Script("cloth 2 6")

NO_NAMES = (
    "", "a" * 9, "hall ", " hall", "ha ll", "Hall", "HALL", "hall1", "1", "ha-ll", "ha_ll", "hall\n", "\nhall", "a.b",
    "`", "{", "a`", "z{", "@", "[", "h" * 2000, b"hall", ("hall",), ["hall"], {"hall": NIGHT}, {"hall"}, NIGHT, None,
)

NO_WISHES = (
    (), ("hall",), ("hall", None), ("hall", ()), ("hall", ("covers", 0, 20)), ("hall", ("covers", 0, 1, 1)),
    ("hall", ("covers", 0, 20, 0)), ("hall", ("covers", 0, 20, True)), ("hall", ["covers", 0, 20, 5]),
    ["hall", ("covers", 0, 20, 5)], ("hall", ("still", 1), 1), ("covers", 0, 20, 5), ("frees", 0, 20, 5), ("still", 1),
    ("hall", ("still",)), ("hall", "still"), ("hall", ("alike", "hall")), ("hall", ("alike", None)),
    ("hall", ("alike", "hall", "hall")), ("alike",), ("alike", NIGHT), ("alike", "hall"), ("alike", "a", "b", "c"),
    ["alike", "hall", "hall"], ("Alike", "hall", "hall"), ("alike ", "hall", "hall"), ("unlike", "hall", "hall"),
    (b"alike", "hall", "hall"), (None, "hall", "hall"), ("hall", "alike", "hall"), ("hall", "hall", "alike"),
    ("", "", ""), (Agreeable(), "hall", "hall"), "alike", {"hall": ("still", 1)}, (("hall", ("still", 1)),),
)


def state(desk):
    """All that a desk tells of itself."""
    scripts = [(name, desk.named(name).rows) for name in desk.names]
    return desk.names, scripts, desk.wishes, desk.changes, len(desk), bool(desk)


def filled():
    """A desk with two names and three wishes, after seven changes."""
    desk = Desk()
    desk.put("hall", NIGHT)
    desk.put("attic", NIGHT_AGAIN)
    desk.put("old", LEFT)
    desk.wish(("hall", ("covers", 0, 20, 5)))
    desk.wish(("alike", "attic", "attic"))
    desk.wish(("attic", ("still", 11)))
    desk.drop("old")
    return desk


class DeskCase(Case):
    def check_unchanged(self, desk, check, error, value, call, *args, **more):
        """The call raises this error, and the desk is what it was."""
        before = state(desk)
        check(error, value, call, *args, **more)
        self.assertEqual(state(desk), before)

    def check_wrong(self, desk, error, given, call, *args, **more):
        self.check_unchanged(desk, self.check_given, error, given, call, *args, **more)

    def check_told(self, desk, error, told, call, *args, **more):
        self.check_unchanged(desk, self.check_raises, error, told, call, *args, **more)


class Examples(DeskCase):
    def test_examples_of_the_document(self):
        desk = Desk()
        self.assertIsNone(desk.put("hall", NIGHT))
        self.assertIsNone(desk.wish(("hall", ("covers", 0, 20, 5))))
        self.assertEqual(desk.names, ("hall",))
        self.assertEqual(desk.wishes, (("hall", ("covers", 0, 20, 5)),))
        self.assertEqual((desk.changes, desk.tried(len)), (2, 1))
        self.check_told(desk, Broken, {"index": 0, "shown": 5}, desk.put, "hall", LEFT)

    def test_by_name(self):
        desk = Desk()
        desk.put(script=NIGHT, name="hall")
        desk.put(name="attic", script=LEFT)
        desk.wish(wish=("hall", ("still", 11)))
        self.assertEqual(desk.named(name="attic"), LEFT)
        desk.lift(index=0)
        desk.drop(name="attic")
        self.assertEqual((desk.names, desk.wishes, desk.changes), (("hall",), (), 5))
        self.check_wrong(desk, InvalidName, None, desk.put, script=None, name=None)
        self.check_wrong(desk, UnknownName, None, desk.named, name=None)
        self.check_wrong(desk, UnknownName, None, desk.drop, name=None)
        self.check_wrong(desk, InvalidWish, None, desk.wish, wish=None)
        self.check_wrong(desk, InvalidNumber, None, desk.lift, index=None)


class New(DeskCase):
    def test_a_new_desk_is_empty_and_true(self):
        desk = Desk()
        self.assertEqual((desk.names, desk.wishes, desk.changes, len(desk)), ((), (), 0, 0))
        self.assertIs(bool(desk), True)
        self.assertIs(type(desk.names), tuple)
        self.assertIs(type(desk.wishes), tuple)

    def test_equal_to_itself_alone(self):
        desk = Desk()
        for other in (Desk(), filled(), Agreeable(), *values_of_all_kinds()):
            with self.subTest(type(other).__name__):
                self.assertIs(desk == other, False)
                self.assertIs(desk != other, True)
        desk.put("hall", NIGHT)
        self.assertIs(desk == desk, True)
        self.assertIs(desk != desk, False)

    def test_two_desks_do_not_touch_each_other(self):
        one, other = filled(), Desk()
        before = state(one)
        other.put("hall", WIDE)
        other.wish(("alike", "hall", "hall"))
        self.assertEqual(state(one), before)
        one.lift(0)
        self.assertEqual((other.names, len(other.wishes), other.changes), (("hall",), 1, 2))


class Names(DeskCase):
    def test_what_is_a_name(self):
        desk = Desk()
        names = ["a" * many for many in range(1, 9)] + ["z" * 8, "az", "za", "alike", "covers", "hall", "none", "q"]
        for many, name in enumerate(names, start=1):
            with self.subTest(name):
                desk.put(name, NIGHT)
                self.assertIs(desk.named(name), NIGHT)
                self.assertEqual((len(desk), desk.changes), (many, many))
        self.assertEqual(desk.names, tuple(sorted(names)))

    def test_each_letter_is_one(self):
        for code in range(32, 128):
            letter = chr(code)
            desk = Desk()
            with self.subTest(letter):
                if "a" <= letter <= "z":
                    desk.put(letter, NIGHT)
                    self.assertEqual(desk.names, (letter,))
                else:
                    self.check_wrong(desk, InvalidName, letter, desk.put, letter, NIGHT)
                    self.check_told(desk, InvalidName, {"given": "a" + letter}, desk.put, "a" + letter, NIGHT)

    def test_what_is_none(self):
        for desk in (Desk(), filled()):
            for name in (*NO_NAMES, *all_but(lambda value: isinstance(value, str) and value in ("x", "cloth"))):
                with self.subTest(name=type(name).__name__):
                    self.check_wrong(desk, InvalidName, name, desk.put, name, NIGHT)
                    self.check_wrong(desk, InvalidName, name, desk.put, name, None)
                    self.check_wrong(desk, UnknownName, name, desk.named, name)
                    self.check_wrong(desk, UnknownName, name, desk.drop, name)
                    wish = (name, ("still", 11))
                    self.check_wrong(desk, UnknownName, name, desk.wish, wish)

    def test_names_that_are_not_there(self):
        desk = filled()
        for name in ("old", "hal", "halls", "a", "alike", "zzzzzzzz"):
            with self.subTest(name):
                self.check_wrong(desk, UnknownName, name, desk.named, name)
                self.check_wrong(desk, UnknownName, name, desk.drop, name)

    def test_names_ascend(self):
        desk = Desk()
        for name in ("b", "a", "ab", "aa", "z", "m", "ba"):
            desk.put(name, NIGHT)
        self.assertEqual(desk.names, ("a", "aa", "ab", "b", "ba", "m", "z"))
        desk.drop("b")
        self.assertEqual(desk.names, ("a", "aa", "ab", "ba", "m", "z"))


class Putting(DeskCase):
    def test_what_is_no_script(self):
        for desk in (Desk(), filled()):
            for value in all_but(lambda value: isinstance(value, Script)):
                with self.subTest(type(value).__name__):
                    self.check_wrong(desk, NotAScript, value, desk.put, "hall", value)
                    self.check_wrong(desk, NotAScript, value, desk.put, "new", value)

    def test_in_the_place_of_another_one(self):
        desk = Desk()
        for many, script in enumerate((NIGHT, LEFT, LEFT, CHILD, WIDE), start=1):
            desk.put("hall", script)
            self.assertIs(desk.named("hall"), script)
            self.assertEqual((len(desk), desk.changes), (1, many))

    def test_broken_by_putting(self):
        desk = filled()
        self.check_told(desk, Broken, {"index": 0, "shown": 5}, desk.put, "hall", LEFT)
        self.check_told(desk, Broken, {"index": 2, "shown": 11}, desk.put, "attic", LEFT)
        self.check_told(desk, Broken, {"index": 1, "shown": "some"}, desk.put, "attic", CHILD)
        desk.put("hall", NIGHT_AGAIN)
        desk.put("attic", STILL)
        desk.put("new", CHILD)
        self.assertEqual(desk.changes, 10)

    def test_the_first_wish_that_breaks_is_told(self):
        desk = Desk()
        desk.put("a", NIGHT)
        desk.put("b", NIGHT)
        for wish in (("b", ("still", 11)), ("a", ("covers", 0, 20, 5)), ("a", ("still", 11)), ("alike", "a", "b")):
            desk.wish(wish)
        self.check_told(desk, Broken, {"index": 1, "shown": 5}, desk.put, "a", LEFT)
        self.check_told(desk, Broken, {"index": 0, "shown": 11}, desk.put, "b", LEFT)
        self.check_told(desk, Broken, {"index": 3, "shown": (1, 1)}, desk.put, "b", NEAR)

    def test_broken_shows_what_fault_returns(self):
        wishes = (
            ("covers", 0, 20, 5), ("covers", 5, 20, 4), ("frees", 20, 30, 1), ("frees", -9, -5, 1), ("still", 11),
            ("still", 12),
            ("alike", NIGHT), ("alike", NIGHT_AGAIN),
        )
        for wish in wishes:
            if fault(NIGHT, wish) is not None:
                continue
            desk = Desk()
            desk.put("hall", NIGHT)
            desk.wish(("hall", wish))
            for script in (LEFT, TWICE, STILL, CHILD, OFF, WIDE, Script("cloth 2 5", "right 1 to 5"), NIGHT_AGAIN):
                shown = fault(script, wish)
                with self.subTest(wish=wish, script=script.rows):
                    if shown is None:
                        desk.put("hall", script)
                        desk.undo()
                    else:
                        self.check_told(desk, Broken, {"index": 0, "shown": shown}, desk.put, "hall", script)

    def test_alike_by_names_is_asked_of_the_first_one(self):
        desk = Desk()
        desk.put("a", LEFT)
        desk.put("b", TWICE)
        self.check_told(desk, Broken, {"index": 0, "shown": (2, 2)}, desk.wish, ("alike", "a", "b"))
        desk.put("b", LEFT)
        desk.wish(("alike", "a", "b"))
        for name in ("a", "b"):
            self.check_told(desk, Broken, {"index": 0, "shown": (2, 2)}, desk.put, name, TWICE)
            self.check_told(desk, Broken, {"index": 0, "shown": "cloth"}, desk.put, name, WIDE)
            self.check_told(desk, Broken, {"index": 0, "shown": "rings"}, desk.put, name, OFF)
            self.check_told(desk, Broken, {"index": 0, "shown": "some"}, desk.put, name, CHILD)
        desk.put("a", Script("cloth 2 5", "left 1 to 0", "carry 0"))


class Dropping(DeskCase):
    def test_names_in_use(self):
        desk = filled()
        self.check_told(desk, InUse, {"index": 0}, desk.drop, "hall")
        self.check_told(desk, InUse, {"index": 1}, desk.drop, "attic")
        desk.lift(1)
        self.check_told(desk, InUse, {"index": 1}, desk.drop, "attic")
        desk.lift(1)
        self.assertIsNone(desk.drop("attic"))
        self.assertEqual(desk.names, ("hall",))
        self.check_wrong(desk, UnknownName, "attic", desk.drop, "attic")

    def test_both_names_of_alike(self):
        desk = Desk()
        for name in ("a", "b", "alike"):
            desk.put(name, NIGHT)
        desk.wish(("alike", "a", "b"))
        self.check_told(desk, InUse, {"index": 0}, desk.drop, "a")
        self.check_told(desk, InUse, {"index": 0}, desk.drop, "b")
        desk.drop("alike")
        desk.put("alike", NIGHT)
        desk.wish(("alike", ("still", 11)))
        self.check_told(desk, InUse, {"index": 1}, desk.drop, "alike")

    def test_a_name_may_come_back(self):
        desk = Desk()
        desk.put("a", NIGHT)
        desk.drop("a")
        desk.put("a", LEFT)
        self.assertEqual((desk.names, desk.named("a"), desk.changes), (("a",), LEFT, 3))


class Wishing(DeskCase):
    def test_what_is_no_wish(self):
        for desk in (Desk(), filled()):
            for wish in (*NO_WISHES, *values_of_all_kinds()):
                with self.subTest(wish=type(wish).__name__):
                    self.check_wrong(desk, InvalidWish, wish, desk.wish, wish)
            for value in values_of_all_kinds():
                wish = ("hall", value)
                with self.subTest(value=type(value).__name__):
                    self.check_wrong(desk, InvalidWish, wish, desk.wish, wish)

    def test_the_form_comes_before_the_names(self):
        desk = filled()
        for wish in (
            ("nobody", ("still", 0)), ("nobody", None), (None, ("covers", 0, 1, 1)), (7, 7), (None, "hall", "hall"),
        ):
            self.check_wrong(desk, InvalidWish, wish, desk.wish, wish)

    def test_names_that_are_not_there(self):
        desk = filled()
        self.check_wrong(desk, UnknownName, "old", desk.wish, ("old", ("still", 1)))
        for value in values_of_all_kinds():
            with self.subTest(type(value).__name__):
                self.check_wrong(desk, UnknownName, value, desk.wish, (value, ("still", 11)))
                self.check_wrong(desk, UnknownName, value, desk.wish, ("alike", value, "hall"))
                self.check_wrong(desk, UnknownName, value, desk.wish, ("alike", "hall", value))
                self.check_wrong(desk, UnknownName, value, desk.wish, ("alike", value, None))
        self.check_wrong(desk, UnknownName, "b", desk.wish, ("alike", "hall", "b"))
        self.check_wrong(desk, UnknownName, "a", desk.wish, ("alike", "a", "b"))

    def test_wishes_of_all_words(self):
        desk = filled()
        many = len(desk.wishes)
        for at, wish in enumerate((
            ("hall", ("covers", 0, 20, 5)), ("hall", ("frees", 20, 22, 1)), ("hall", ("still", 11)),
            ("hall", ("alike", NIGHT)), ("attic", ("covers", -3, 20, 13)), ("alike", "attic", "attic"),
            ("alike", "hall", "hall"),
        )):
            self.assertIsNone(desk.wish(wish))
            self.assertIs(desk.wishes[-1], wish)
            self.assertEqual((len(desk.wishes), desk.changes), (many + at + 1, 8 + at))

    def test_broken_by_wishing(self):
        desk = filled()
        many = len(desk.wishes)
        for wish, shown in (
            (("hall", ("covers", 0, 20, 1)), 1), (("hall", ("covers", -1, 20, 5)), 5),
            (("hall", ("frees", 0, 20, 1)), 2),
            (("hall", ("still", 1)), 6), (("hall", ("alike", LEFT)), (1, 1)), (("hall", ("alike", WIDE)), "cloth"),
            (("hall", ("alike", OFF)), "rings"), (("hall", ("alike", CHILD)), "some"),
            (("alike", "hall", "attic"), (6, 2)),
            (("alike", "attic", "hall"), (6, 2)),
        ):
            with self.subTest(wish):
                self.check_told(desk, Broken, {"index": many, "shown": shown}, desk.wish, wish)

    def test_lifting_at_any_place(self):
        for index in range(3):
            desk = filled()
            wishes = desk.wishes
            self.assertIsNone(desk.lift(index))
            self.assertEqual(desk.wishes, wishes[:index] + wishes[index + 1:])
            self.assertEqual(desk.changes, 8)
            self.check_wrong(desk, InvalidNumber, 2, desk.lift, 2)

    def test_indexes_that_are_none(self):
        for desk, many in ((filled(), 3), (Desk(), 0)):
            for value in (
                *all_but(lambda value: type(value) is int and value in range(3)), many, many + 1, -1, 10 ** 40,
            ):
                with self.subTest(value=type(value).__name__):
                    self.check_wrong(desk, InvalidNumber, value, desk.lift, value)

    def test_a_lifted_wish_no_longer_breaks(self):
        desk = filled()
        desk.lift(0)
        desk.put("hall", LEFT)
        self.check_told(desk, Broken, {"index": 2, "shown": 5}, desk.wish, ("hall", ("covers", 0, 20, 5)))


class Undoing(DeskCase):
    def test_nothing_to_undo(self):
        desk = Desk()
        self.check_told(desk, NothingToUndo, {}, desk.undo)
        desk.put("a", NIGHT)
        self.assertIsNone(desk.undo())
        self.check_told(desk, NothingToUndo, {}, desk.undo)

    def test_each_kind_of_change_step_by_step(self):
        desk = Desk()
        deeds = (
            (desk.put, ("hall", NIGHT)), (desk.put, ("hall", NIGHT)), (desk.put, ("attic", LEFT)),
            (desk.put, ("attic", TWICE)),
            (desk.wish, (("hall", ("still", 11)),)), (desk.wish, (("hall", ("still", 11)),)), (desk.lift, (0,)),
            (desk.wish, (("alike", "attic", "attic"),)), (desk.lift, (1,)), (desk.drop, ("attic",)),
            (desk.put, ("b", CHILD)),
        )
        states = [state(desk)]
        for call, args in deeds:
            self.assertIsNone(call(*args))
            states.append(state(desk))
            self.assertEqual(desk.changes, len(states) - 1)
        while len(states) > 1:
            self.assertEqual(state(desk), states.pop())
            self.assertIsNone(desk.undo())
        self.assertEqual(state(desk), states[0])
        self.check_told(desk, NothingToUndo, {}, desk.undo)

    def test_what_was_refused_is_not_taken_back(self):
        desk = filled()
        desk.put("new", NIGHT)
        self.check_told(desk, Broken, {"index": 0, "shown": 5}, desk.put, "hall", LEFT)
        self.check_wrong(desk, UnknownName, "x", desk.drop, "x")
        desk.undo()
        self.assertEqual(state(desk), state(filled()))

    def test_other_changes_behind_an_undo(self):
        desk = filled()
        desk.undo()
        desk.undo()
        desk.put("new", NIGHT)
        self.assertEqual((desk.changes, desk.names, len(desk.wishes)), (6, ("attic", "hall", "new", "old"), 2))
        desk.undo()
        self.assertEqual((desk.changes, desk.names, len(desk.wishes)), (5, ("attic", "hall", "old"), 2))

    def test_many_changes(self):
        desk = Desk()
        for _ in range(20000):
            desk.put("a", NIGHT)
        self.assertEqual(desk.changes, 20000)
        for _ in range(20000):
            desk.undo()
        self.assertEqual((desk.changes, desk.names), (0, ()))
        for _ in range(20000):
            desk.put("a", NIGHT)
        del desk


class Wandering(DeskCase):
    """A desk beside one that is told plainly, through many deeds in no order."""

    SCRIPTS = (NIGHT, NIGHT_AGAIN, LEFT, TWICE, STILL, CHILD, OFF, WIDE)
    WISHES = (
        ("covers", 0, 20, 5), ("covers", 0, 2, 3), ("frees", -9, -5, 1), ("frees", 20, 30, 1), ("still", 11),
        ("alike", NIGHT),
        ("alike", LEFT), ("covers", 3, 30, 7),
    )

    def shown(self, scripts, wish):
        if len(wish) == 3:
            return fault(scripts[wish[1]], ("alike", scripts[wish[2]]))
        return fault(scripts[wish[0]], wish[1])

    def first_broken(self, scripts, wishes):
        for index, wish in enumerate(wishes):
            shown = self.shown(scripts, wish)
            if shown is not None:
                return {"index": index, "shown": shown}
        return None

    def test_many_deeds(self):
        for seed in range(12):
            told = random.Random(f"desk {seed}")
            desk = Desk()
            past = []
            scripts, wishes = {}, ()
            for _ in range(120):
                self.assertEqual(desk.names, tuple(sorted(scripts)))
                self.assertEqual({name: desk.named(name) for name in desk.names}, scripts)
                self.assertEqual((desk.wishes, desk.changes, len(desk)), (wishes, len(past), len(scripts)))
                self.assertIsNone(self.first_broken(scripts, wishes))
                names = [told.choice("abc") for _ in range(2)]
                now = (scripts, wishes)
                deed = told.choice(("put", "put", "wish", "wish", "alike", "drop", "lift", "undo"))
                if deed == "put":
                    new = {**scripts, names[0]: told.choice(self.SCRIPTS)}
                    wrong = self.first_broken(new, wishes)
                    if wrong is not None:
                        self.check_told(desk, Broken, wrong, desk.put, names[0], new[names[0]])
                        continue
                    desk.put(names[0], new[names[0]])
                    scripts = new
                elif deed in ("wish", "alike"):
                    wish = (names[0], told.choice(self.WISHES)) if deed == "wish" else ("alike", *names)
                    missing = [name for name in (names[:1] if deed == "wish" else names) if name not in scripts]
                    if missing:
                        self.check_told(desk, UnknownName, {"given": missing[0]}, desk.wish, wish)
                        continue
                    wrong = self.first_broken(scripts, (*wishes, wish))
                    if wrong is not None:
                        self.check_told(desk, Broken, wrong, desk.wish, wish)
                        continue
                    desk.wish(wish)
                    wishes = (*wishes, wish)
                elif deed == "drop":
                    using = [at for at, wish in enumerate(wishes) if names[0] in wish[-2:] or names[0] == wish[0]]
                    if names[0] not in scripts:
                        self.check_told(desk, UnknownName, {"given": names[0]}, desk.drop, names[0])
                        continue
                    if using:
                        self.check_told(desk, InUse, {"index": using[0]}, desk.drop, names[0])
                        continue
                    desk.drop(names[0])
                    scripts = {name: script for name, script in scripts.items() if name != names[0]}
                elif deed == "lift":
                    index = told.randrange(-1, 4)
                    if not 0 <= index < len(wishes):
                        self.check_told(desk, InvalidNumber, {"given": index}, desk.lift, index)
                        continue
                    desk.lift(index)
                    wishes = wishes[:index] + wishes[index + 1:]
                elif not past:
                    self.check_told(desk, NothingToUndo, {}, desk.undo)
                    continue
                else:
                    desk.undo()
                    scripts, wishes = past.pop()
                    continue
                past.append(now)


if __name__ == "__main__":
    unittest.main()
