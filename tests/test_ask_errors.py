"""drawnrings.bounds and drawnrings.asking: which errors are raised, in their order, for values of any kind."""

import unittest

from drawnrings.asking import always_sure, covers, dark_from, frees, needless, parting, pruned
from drawnrings.bounds import bounds, dark, reach, spread, sure
from drawnrings.errors import InvalidNumber, InvalidPlace, NotAScript, Unknown
from drawnrings.mends import fault
from drawnrings.scripts import Script
from drawnrings.seen import starts_seen
from tests.helpers import Case, all_but, is_plain_integer, values_of_all_kinds

NIGHT = Script("cloth 2 5", "left 1 to 0", "right 1 to 20")

# Its least number is 4, and there are three rings less at the end; its first row with `some` is the fourth one.
CHILD = Script("cloth 2 5 from 0", "off left", "off right", "off left", "some to 0", "carry 1", "some to 3")

# Its least number is 3, and there are two rings more at the end.
GROWN = Script("cloth 2 5", "left 3 to 0", "on left 3", "on right 7")

WITH_NUMBER = (bounds, reach, spread, dark, sure, dark_from, starts_seen)
KNOWN_ALONE = (bounds, spread, frees, needless, pruned, starts_seen)

# For each function, arguments behind the script that are valid for CHILD as well as for NIGHT.
REST = (
    (bounds, (9, 1)), (reach, (9, 1)), (spread, (9,)), (dark, (9,)), (sure, (9,)), (covers, (0, 2)), (frees, (0, 2)),
    (needless, ()), (pruned, ()), (dark_from, (9,)), (always_sure, ()), (starts_seen, (9, ())), (fault, (("still", 1),)),
)


def scripts_not():
    return all_but(lambda value: isinstance(value, Script))


class Scripts(Case):
    def test_values_of_all_kinds(self):
        for value in scripts_not():
            for call, rest in REST:
                with self.subTest(call.__name__, value=type(value).__name__):
                    self.check_given(NotAScript, value, call, value, *rest)

    def test_the_script_is_looked_at_first(self):
        for call, rest in REST:
            for value in (None, "cloth 2 5", NIGHT.rows, Script):
                with self.subTest(call.__name__):
                    self.check_given(NotAScript, value, call, value, *[None for _ in rest])

    def test_two_scripts(self):
        for value in scripts_not():
            with self.subTest(type(value).__name__):
                self.check_given(NotAScript, value, parting, value, NIGHT)
                self.check_given(NotAScript, value, parting, NIGHT, value)
                self.check_given(NotAScript, value, parting, value, None)
                self.check_given(NotAScript, value, parting, CHILD, value)
                self.check_given(NotAScript, value, parting, one=value, other=CHILD)
                self.check_given(NotAScript, value, parting, other=value, one=CHILD)

    def test_by_name(self):
        for call in (needless, pruned, always_sure):
            self.check_given(NotAScript, None, call, script=None)
        self.check_given(NotAScript, None, covers, a=None, b=None, script=None)
        self.check_given(NotAScript, None, bounds, ring=None, n=None, script=None)


class Numbers(Case):
    def calls(self):
        """Each function with a number, and how it is called."""
        for call in WITH_NUMBER:
            if call in (bounds, reach):
                yield call, (1,)
            elif call is starts_seen:
                yield call, ((),)
            else:
                yield call, ()

    def test_values_of_all_kinds(self):
        for value in all_but(is_plain_integer):
            for call, rest in self.calls():
                for script in (NIGHT, CHILD):
                    with self.subTest(call.__name__, value=type(value).__name__):
                        self.check_given(InvalidNumber, value, call, script, value, *rest)
                        self.check_given(InvalidNumber, value, call, script, value, *[None for _ in rest])

    def test_less_than_the_least_number(self):
        for script, least in ((NIGHT, 1), (CHILD, 4), (GROWN, 3), (Script("cloth 2 5", "right 5 to 0"), 5)):
            self.assertEqual(script.least, least)
            for call, rest in self.calls():
                for n in (least - 1, 0, -1, -10 ** 39):
                    with self.subTest(call.__name__, n=n):
                        self.check_given(InvalidNumber, n, call, script, n, *rest)
                if script.known or call not in KNOWN_ALONE:
                    call(script, least, *rest)

    def test_rings_that_are_not_there(self):
        for call in (bounds, reach):
            for script, n, rings in ((NIGHT, 5, 5), (NIGHT, 1, 1), (GROWN, 3, 5), (CHILD, 4, 1), (CHILD, 10 ** 39, None)):
                rings = rings or n - 3
                for ring in (0, -1, rings + 1, rings + 10 ** 39, -10 ** 39, True, False):
                    with self.subTest(call.__name__, ring=ring):
                        self.check_given(InvalidNumber, ring, call, script, n, ring)
                        self.check_given(InvalidNumber, ring, call, ring=ring, n=n, script=script)
                if script.known or call is reach:
                    call(script, n, 1)
                    call(script, n, rings)

    def test_values_of_all_kinds_as_ring(self):
        for value in all_but(is_plain_integer):
            with self.subTest(type(value).__name__):
                for call in (bounds, reach):
                    for script in (NIGHT, CHILD):
                        self.check_given(InvalidNumber, value, call, script, 5, value)

    def test_the_number_comes_before_the_ring(self):
        for call in (bounds, reach):
            self.check_given(InvalidNumber, 0, call, NIGHT, 0, 7)
            self.check_given(InvalidNumber, True, call, NIGHT, True, False)


class Places(Case):
    def test_values_of_all_kinds(self):
        for call in (covers, frees):
            for script in (NIGHT, CHILD):
                for value in all_but(is_plain_integer):
                    with self.subTest(call.__name__, value=type(value).__name__):
                        self.check_given(InvalidPlace, value, call, script, value, 5)
                        self.check_given(InvalidPlace, value, call, script, 0, value)
                        self.check_given(InvalidPlace, value, call, script, value, None)
                        self.check_given(InvalidPlace, value, call, b=value, a=0, script=script)

    def test_what_is_no_window(self):
        for call in (covers, frees):
            for a, b in ((0, 1), (0, 0), (0, -1), (5, 6), (-5, -4), (10 ** 39, 10 ** 39 + 1), (10 ** 39, -10 ** 39)):
                with self.subTest(call.__name__, a=a, b=b):
                    self.check_given(InvalidPlace, b, call, NIGHT, a, b)
                    self.check_given(InvalidPlace, b, call, CHILD, a, b)
            for a, b in ((0, 2), (-5, -3), (10 ** 39, 10 ** 39 + 2), (-10 ** 39, 10 ** 39)):
                self.assertIs(type(call(NIGHT, a, b)), tuple)

    def test_true_and_false(self):
        for call in (covers, frees):
            self.check_given(InvalidPlace, True, call, NIGHT, True, 9)
            self.check_given(InvalidPlace, False, call, NIGHT, False, 9)
            self.check_given(InvalidPlace, True, call, NIGHT, -9, True)


class UnknownScripts(Case):
    def test_the_index_of_the_first_row_with_some(self):
        for call, rest in REST:
            with self.subTest(call.__name__):
                if call in KNOWN_ALONE:
                    self.check_raises(Unknown, {"index": 4}, call, CHILD, *rest)
                    script = Script("cloth 2 5", "some to 0", "some to 0")
                    self.check_raises(Unknown, {"index": 1}, call, script, *rest)
                else:
                    call(CHILD, *rest)

    def test_two_scripts(self):
        first = Script("cloth 2 6", "some to 0")
        self.check_raises(Unknown, {"index": 4}, parting, CHILD, NIGHT)
        self.check_raises(Unknown, {"index": 4}, parting, NIGHT, CHILD)
        self.check_raises(Unknown, {"index": 4}, parting, CHILD, first)
        self.check_raises(Unknown, {"index": 1}, parting, first, CHILD)
        self.check_raises(Unknown, {"index": 1}, parting, NIGHT, first)
        self.check_raises(Unknown, {"index": 4}, parting, CHILD, CHILD)

    def test_unknown_comes_behind_all_else(self):
        self.check_given(InvalidNumber, 3, bounds, CHILD, 3, 1)
        self.check_given(InvalidNumber, 2, bounds, CHILD, 4, 2)
        self.check_given(InvalidNumber, 3, spread, CHILD, 3)
        self.check_given(InvalidPlace, None, frees, CHILD, None, 3)
        self.check_given(InvalidPlace, 1, frees, CHILD, 0, 1)


class Nothing(Case):
    def test_no_call_changes_what_it_is_passed(self):
        rows = ("cloth 2 5 from 0", "off left", "right 1 to 9", "carry 3")
        for call, rest in REST:
            script = Script(*rows)
            call(script, *rest)
            self.assertEqual((script.rows, script.cloth, script.least, script.change), (rows, (2, 5, 0), 2, -1))
            self.assertEqual(call(script, *rest), call(Script(*rows), *rest))
        for value in values_of_all_kinds():
            if isinstance(value, (list, dict, set)):
                before = repr(value)
                self.check_given(NotAScript, value, covers, value, value, value)
                self.assertEqual(repr(value), before)


if __name__ == "__main__":
    unittest.main()
