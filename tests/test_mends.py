"""drawnrings.mends: fault and mending."""

import itertools
import unittest

from drawnrings.asking import covers, frees, parting
from drawnrings.bounds import sure
from drawnrings.errors import InvalidExchanges, InvalidRows, InvalidWish, InvalidWishes, NotAScript
from drawnrings.mends import fault, mending
from drawnrings.scripts import Script
from tests.helpers import Case, all_but, is_plain_integer, numbers_in, pseudo_scripts, values_of_all_kinds

NIGHT = Script("cloth 2 5", "left 1 to 0", "right 1 to 20")
CHILD = Script("cloth 2 5", "some to 0", "right 1 to 30")
TWICE = Script("cloth 2 5", "left 1 to 9", "left 1 to 0")
GREAT = 10 ** 30

WISHES = (
    ("covers", 0, 20, 1), ("covers", -1, 3, 9), ("covers", -5, 5, GREAT), ("frees", 0, 4, 1), ("frees", 9, 20, 3),
    ("frees", -30, -20, GREAT), ("still", 1), ("still", 7), ("still", GREAT), ("alike", NIGHT),
    ("alike", Script("cloth 2 5", "left 1 to 0")), ("alike", CHILD),
)

EXCHANGES = (
    (0, "cloth 1 9"), (0, "cloth 2 5 from 0"), (1, "right 1 to 0"), (1, "carry 0"), (1, "some to 9"), (1, "nothing"),
    (2, "left 1 to 0"), (2, "right 5 to 9"), (2, "right 1 to 20"), (2, ""), (2, "cloth 2 5"), (2, "off left"),
)


def least_wrong(start, holds, most=80):
    """The least number from start on for which this does not hold; None if there is none among so many."""
    return next((n for n in range(start, start + most) if not holds(n)), None)


def exchanged(script, exchanges, lot):
    """The script with the exchanges of a lot, None if there is none, or if two of them are of one row."""
    if len({exchanges[at][0] for at in lot}) < len(lot):
        return None
    rows = list(script.rows)
    for at in lot:
        rows[exchanges[at][0]] = exchanges[at][1]
    try:
        return Script(*rows)
    except InvalidRows:
        return None


def least_lots(script, exchanges, wishes):
    """All lots that mend and of which no other part does."""
    told = []
    lots = [lot for many in range(6) for lot in itertools.combinations(range(len(exchanges)), many)]
    for lot in lots:
        made = exchanged(script, exchanges, lot)
        if made is not None and all(fault(made, wish) is None for wish in wishes):
            told.append(lot)
    return tuple([lot for lot in told if not any(set(other) < set(lot) for other in told)])


class Examples(Case):
    def test_examples_of_the_document(self):
        self.assertEqual(fault(NIGHT, ("covers", 0, 20, 1)), 1)
        self.assertIsNone(fault(NIGHT, ("covers", 0, 20, 5)))
        self.assertEqual(fault(NIGHT, ("still", 1)), 6)
        self.assertEqual(fault(CHILD, ("frees", 0, 2, 1)), "some")
        self.assertIsNone(fault(TWICE, ("alike", TWICE)))
        exchanges = ((1, "left 1 to 20"), (2, "right 1 to 0"), (2, "left 1 to -9"), (0, "cloth 4 5"))
        self.assertEqual(mending(TWICE, exchanges, (("covers", 0, 30, 9),)), ((0,), (3,)))

    def test_by_name(self):
        self.assertEqual(fault(wish=("still", 1), script=NIGHT), 6)
        told = mending(wishes=(("still", 1),), exchanges=((2, "carry 0"), (1, "left 1 to 30")), script=NIGHT)
        self.assertEqual(told, ((1,),))


class Faults(Case):
    def test_windows(self):
        for rows in pseudo_scripts("faults", 60, 6, 8, with_some=True):
            script = Script(*rows)
            for a, b, start in itertools.product((-9, -2, 0), (2, 7), (1, 2, 6, 30)):
                first = max(start, script.least)
                with self.subTest(rows, a=a, b=b, start=start):
                    covered = numbers_in(covers(script, a, b), 0, first + 80)
                    wanted = least_wrong(first, lambda n: n in covered)
                    self.assertEqual(fault(script, ("covers", a, b, start)), wanted)
                    if script.known:
                        free = numbers_in(frees(script, a, b), 0, first + 80)
                        wanted = least_wrong(first, lambda n: n in free)
                        self.assertEqual(fault(script, ("frees", a, b, start)), wanted)
                    else:
                        self.assertEqual(fault(script, ("frees", a, b, start)), "some")

    def test_still(self):
        for rows in pseudo_scripts("still", 90, 7, 8, with_some=True):
            script = Script(*rows)
            for start in (1, script.least, script.least + 1, script.least + 5, script.least + 30):
                first = max(start, script.least)
                wanted = least_wrong(first, lambda n: sure(script, n) == ((1, n + script.change),))
                with self.subTest(rows, start=start):
                    self.assertEqual(fault(script, ("still", start)), wanted)

    def test_still_where_some_lesser_numbers_are_so_too(self):
        script = Script("cloth 2 5 from 2", "right 3 to 6", "carry -12", "on right 9")
        told = [fault(script, ("still", start)) for start in range(1, 12)]
        self.assertEqual(told, [4, 4, 4, 4, 6, 6, 7, 8, 9, None, None])
        script = Script("cloth 1 4 from -12", "off right", "right 5 to 9", "right 3 to -2")
        told = [fault(script, ("still", start)) for start in (1, 11, 13, 14, 21, 22, GREAT)]
        self.assertEqual(told, [11, 11, 13, 22, 22, 22, GREAT])
        script = Script("cloth 2 5 from -4", "some to 10", "carry -10", "right 3 to 4", "right 2 to 0")
        told = [fault(script, ("still", start)) for start in (1, 6, 8, 9, 10, 11, GREAT)]
        self.assertEqual(told, [6, 6, 8, 11, 11, 11, GREAT])

    def test_alike(self):
        scripts = [Script(*rows) for rows in pseudo_scripts("alike", 40, 4, 5, with_some=True)]
        for one, other in itertools.product(scripts[:20], scripts):
            with self.subTest(one=one.rows, other=other.rows):
                if one.known and other.known:
                    self.assertEqual(fault(one, ("alike", other)), parting(one, other))
                else:
                    self.assertEqual(fault(one, ("alike", other)), "some")
        self.assertEqual(fault(NIGHT, ("alike", Script("cloth 2 6"))), "cloth")
        self.assertEqual(fault(NIGHT, ("alike", Script("cloth 2 5", "off left"))), "rings")
        self.assertEqual(fault(TWICE, ("alike", Script("cloth 2 5", "left 1 to 0"))), (2, 2))

    def test_some_is_ahead_of_all_else(self):
        self.assertEqual(fault(NIGHT, ("alike", Script("cloth 3 9", "off left", "some to 0"))), "some")
        self.assertEqual(fault(CHILD, ("alike", Script("cloth 3 9"))), "some")
        self.assertEqual(fault(CHILD, ("alike", CHILD)), "some")
        self.assertEqual(fault(Script("cloth 2 5", "some to 0", "left 1 to 9"), ("frees", 0, 2, 1)), "some")
        self.assertEqual(fault(Script("cloth 2 5", "some to 0", "left 1 to 9"), ("still", 1)), 5)
        self.assertEqual(fault(CHILD, ("covers", 3, 30, 1)), 1)
        self.assertIsNone(fault(CHILD, ("covers", 3, 30, 7)))

    def test_far_numbers(self):
        left = Script("cloth 2 5", "left 1 to 0")
        self.assertEqual(fault(NIGHT, ("covers", 0, 21, GREAT)), GREAT)
        self.assertIsNone(fault(NIGHT, ("covers", 0, 20, GREAT)))
        self.assertEqual(fault(left, ("still", GREAT)), GREAT)
        self.assertIsNone(fault(NIGHT, ("still", GREAT)))
        self.assertIsNone(fault(NIGHT, ("still", 11)))
        self.assertEqual(fault(NIGHT, ("still", 10)), 10)
        self.assertEqual(fault(left, ("covers", 0, GREAT, 1)), 1)
        self.assertIsNone(fault(left, ("covers", 0, GREAT, GREAT // 2 + 1)))
        self.assertEqual(fault(left, ("covers", 0, GREAT, GREAT // 2)), GREAT // 2)
        self.assertEqual(fault(left, ("frees", GREAT, 2 * GREAT, 1)), GREAT // 5 + 2)
        self.assertEqual(fault(left, ("frees", GREAT, 2 * GREAT, GREAT)), GREAT)
        self.assertIsNone(fault(left, ("frees", -2, 0, GREAT)))

    def test_from_the_least_number_on(self):
        script = Script("cloth 2 5", "off left", "off left", "left 1 to 0")
        self.assertEqual(fault(script, ("covers", 0, 2, 1)), 3)
        self.assertEqual(fault(script, ("covers", 0, 2, 3)), 3)
        self.assertIsNone(fault(script, ("covers", 0, 2, 4)))
        self.assertEqual(fault(script, ("still", 1)), 4)
        self.assertEqual(fault(script, ("frees", 0, 2, 1)), 4)
        self.assertIsNone(fault(script, ("frees", -2, 0, 1)))

    def test_wishes_that_are_none(self):
        for wish in (
            (), ("covers",), ("covers", 0, 2), ("covers", 0, 1, 1), ("covers", 0, 2, 0), ("covers", 0, 2, 1, 1),
            ("covers", 2, 0, 1), ("covers", True, 3, 1), ("covers", 0, True, 1), ("covers", -9, False, 1),
            ("covers", 0, 2, True), ("covers", None, 2, 1), ("covers", 0, None, 1), ("covers", 0, 2, None),
            ("covers", "0", 2, 1), ("covers", 0, "2", 1), ("frees", 0, 1, 1), ("frees", 0, 2, 0), ("frees", 0, 2),
            ("frees", 0, 2, -1), ("frees", False, 2, 1), ("still",), ("still", 0), ("still", True), ("still", 1, 1),
            ("still", None), ("still", -GREAT), ("alike",), ("alike", None), ("alike", "cloth 2 5"), ("alike", NIGHT.rows),
            ("alike", NIGHT, NIGHT), ("alike", Script), ("alike", 1), ("Covers", 0, 2, 1), ("cover", 0, 2, 1), ("", 1),
            (None, 1), (1, 1), (NIGHT, NIGHT), ("still ", 1), ["still", 1], ["covers", 0, 2, 1], "still", {"still": 1},
            (("still", 1),), (b"still", 1), (["still"], 1),
        ):
            with self.subTest(wish=wish):
                self.check_given(InvalidWish, wish, fault, NIGHT, wish)
                self.check_raises(InvalidWishes, {"index": 0}, mending, NIGHT, (), (wish,))
                self.check_raises(InvalidWishes, {"index": 1}, mending, NIGHT, (), (("still", 1), wish, None))

    def test_values_of_all_kinds(self):
        for value in values_of_all_kinds():
            with self.subTest(type(value).__name__):
                self.check_given(InvalidWish, value, fault, NIGHT, value)
                self.check_raises(InvalidWishes, {"index": 0}, mending, NIGHT, (), (value,))
                for wish in ((value, 1), (value, 0, 2, 1), (value, NIGHT)):
                    self.check_given(InvalidWish, wish, fault, NIGHT, wish)
                if type(value) is not Script:
                    wish = ("alike", value)
                    self.check_given(InvalidWish, wish, fault, NIGHT, wish)
        for value in all_but(is_plain_integer):
            with self.subTest(type(value).__name__):
                for word in ("covers", "frees"):
                    for wish in ((word, value, 2, 1), (word, 0, value, 1), (word, 0, 2, value)):
                        self.check_given(InvalidWish, wish, fault, CHILD, wish)
                wish = ("still", value)
                self.check_given(InvalidWish, wish, fault, CHILD, wish)

    def test_the_script_is_looked_at_first(self):
        for value in all_but(lambda value: isinstance(value, Script)):
            with self.subTest(type(value).__name__):
                self.check_given(NotAScript, value, fault, value, ("still", 1))
                self.check_given(NotAScript, value, fault, value, None)
                self.check_given(NotAScript, value, mending, value, None, None)
                self.check_given(NotAScript, value, mending, wishes=(), exchanges=(), script=value)


class Lots(Case):
    def test_beside_all_lots(self):
        for many in (0, 1, 2, 3):
            for exchanges in itertools.combinations(EXCHANGES, many):
                wishes = (WISHES[hash_of(exchanges) % len(WISHES)],)
                with self.subTest(exchanges, wishes=wishes):
                    self.assertEqual(mending(NIGHT, exchanges, wishes), least_lots(NIGHT, exchanges, wishes))

    def test_five_exchanges_and_several_wishes(self):
        fives = list(itertools.combinations(EXCHANGES, 5))[::13]
        pairs = list(itertools.combinations(WISHES, 2))
        for at, exchanges in enumerate(fives):
            for script in (NIGHT, TWICE):
                wishes = pairs[at % len(pairs)]
                with self.subTest(script.rows, exchanges=exchanges, wishes=wishes):
                    self.assertEqual(mending(script, exchanges, wishes), least_lots(script, exchanges, wishes))

    def test_order(self):
        """By length, then as tuples; the exchanges keep the order in which they are passed."""
        exchanges = ((2, "right 1 to 0"), (1, "right 1 to 0"), (0, "cloth 1 9"), (2, "carry 1"), (2, "left 2 to 9"))
        for wish in WISHES:
            told = mending(TWICE, exchanges, (wish,))
            self.assertEqual(list(told), sorted(told, key=lambda lot: (len(lot), lot)))
            self.assertEqual(told, least_lots(TWICE, exchanges, (wish,)))
            for lot in told:
                self.assertIs(type(lot), tuple)
                self.assertEqual(list(lot), sorted(lot))

    def test_the_empty_lot(self):
        self.assertEqual(mending(NIGHT, (), ()), ((),))
        self.assertEqual(mending(NIGHT, (), (("still", 11),)), ((),))
        self.assertEqual(mending(NIGHT, ((1, "carry 0"), (2, "")), (("still", 11),)), ((),))
        self.assertEqual(mending(NIGHT, (), (("still", 1),)), ())
        self.assertEqual(mending(CHILD, ((1, "carry 0"),), ()), ((),))

    def test_lots_of_which_no_part_does(self):
        """Both rows have to be exchanged."""
        script = Script("cloth 2 5", "left 1 to 0", "left 1 to 1")
        exchanges = ((1, "left 1 to 40"), (2, "right 1 to 30"))
        self.assertEqual(mending(script, exchanges, (("still", 1),)), ((0, 1),))
        self.assertEqual(mending(script, exchanges, (("still", 1), ("covers", 20, 30, 9))), ((0, 1),))
        self.assertEqual(mending(script, exchanges, (("covers", 20, 30, 16),)), ((),))
        self.assertEqual(mending(script, exchanges, (("covers", 20, 30, 15),)), ((0,), (1,)))
        wishes = (("alike", Script("cloth 1 2", "carry 3")),)
        exchanges = ((2, "carry 2"), (1, "carry 1"), (0, "cloth 1 2"))
        self.assertEqual(mending(script, exchanges, wishes), ((0, 1, 2),))
        exchanges = ((2, "carry 2"), (1, "carry 1"), (0, "cloth 1 2"), (2, "carry 2"), (0, "cloth 1 2"))
        self.assertEqual(mending(script, exchanges, wishes), ((0, 1, 2), (0, 1, 4), (1, 2, 3), (1, 3, 4)))

    def test_several_exchanges_of_one_row(self):
        exchanges = ((1, "right 1 to 20"), (1, "right 1 to 20"), (1, "carry 0"))
        self.assertEqual(mending(NIGHT, exchanges, (("still", 1),)), ())
        exchanges = ((1, "right 1 to -9"), (1, "right 1 to -9"), (1, "carry 0"), (2, "left 1 to 0"))
        self.assertEqual(mending(NIGHT, exchanges, (("still", 1),)), ((0, 3), (1, 3)))

    def test_strings_that_are_no_rows(self):
        exchanges = ((0, "left 1 to 0"), (1, "cloth 2 5"), (1, ""), (2, "left 1 to 100"), (2, "right 1 to 20\n"))
        self.assertEqual(mending(NIGHT, exchanges, ()), ((),))
        self.assertEqual(mending(NIGHT, exchanges, (("still", 1),)), ())
        self.assertEqual(mending(Script("cloth 2 5"), ((0, "cloth 2 2"), (0, "")), (("still", 1),)), ())

    def test_the_row_of_the_cloth(self):
        exchanges = ((0, "cloth 2 5 from 0"), (0, "cloth 1 9"), (0, "cloth 2 3 from -99"))
        wishes = (("frees", -9, 0, 1),)
        self.assertEqual(mending(Script("cloth 2 5", "right 1 to 3"), exchanges, wishes), ((0,),))

    def test_exchanges_that_change_the_least_number(self):
        script = Script("cloth 2 5", "left 1 to 0", "carry 0")
        exchanges = ((2, "left 4 to 9"), (2, "off left"), (1, "right 3 to 0"))
        for wish in (("covers", 0, 6, 1), ("covers", 3, 6, 1), ("covers", -4, 0, 2), ("covers", 5, 9, 1)):
            self.assertEqual(mending(script, exchanges, (wish,)), least_lots(script, exchanges, (wish,)))
        self.assertEqual(mending(script, ((2, "left 4 to 6"),), (("covers", 0, 6, 1),)), ((0,),))

    def test_wishes_that_some_breaks(self):
        exchanges = ((1, "some to 0"), (1, "carry 0"), (2, "carry 0"))
        self.assertEqual(mending(CHILD, exchanges, (("frees", -9, -5, 1),)), ())
        self.assertEqual(mending(NIGHT, exchanges, (("alike", Script("cloth 2 5", "right 1 to 20")),)), ((1,),))

    def test_nothing_is_changed(self):
        exchanges = ((1, "left 1 to 20"), (2, "right 1 to 0"))
        wishes = (("covers", 0, 30, 9), ("alike", NIGHT))
        self.assertEqual(mending(TWICE, exchanges, wishes), mending(TWICE, exchanges, wishes))
        self.assertEqual(exchanges, ((1, "left 1 to 20"), (2, "right 1 to 0")))
        self.assertEqual(wishes, (("covers", 0, 30, 9), ("alike", NIGHT)))
        self.assertEqual(TWICE.rows, ("cloth 2 5", "left 1 to 9", "left 1 to 0"))


class LotErrors(Case):
    def test_exchanges_that_are_no_tuple_of_at_most_five(self):
        for value in all_but(lambda value: isinstance(value, tuple)):
            with self.subTest(type(value).__name__):
                self.check_raises(InvalidExchanges, {"index": None}, mending, NIGHT, value, ())
        fit = (1, "carry 0")
        self.check_raises(InvalidExchanges, {"index": None}, mending, NIGHT, (fit,) * 6, ())
        self.check_raises(InvalidExchanges, {"index": None}, mending, NIGHT, (None,) * 6, None)
        self.check_raises(InvalidExchanges, {"index": None}, mending, NIGHT, [fit], ())
        self.assertEqual(mending(NIGHT, (fit,) * 5, ()), ((),))

    def test_what_is_no_exchange(self):
        for value in (
            (), (1,), (1, "x", "x"), [1, "carry 0"], (3, "carry 0"), (-1, "carry 0"), (True, "carry 0"), (False, "cloth 2 5"),
            (None, "carry 0"), ("1", "carry 0"), (1, None), (1, 5), (1, b"carry 0"), (1, ["carry 0"]), (1, ("carry 0",)),
            ("carry 0", 1), (GREAT, "carry 0"), (1, NIGHT), "10", ((1, "carry 0"),),
        ):
            with self.subTest(value=value):
                self.check_raises(InvalidExchanges, {"index": 0}, mending, NIGHT, (value,), ())
                told = ((1, "carry 0"), (2, ""), value, value)
                self.check_raises(InvalidExchanges, {"index": 2}, mending, NIGHT, told, ())

    def test_values_of_all_kinds(self):
        for value in values_of_all_kinds():
            with self.subTest(type(value).__name__):
                self.check_raises(InvalidExchanges, {"index": 1}, mending, NIGHT, ((0, ""), value), ())
                if not isinstance(value, str):
                    self.check_raises(InvalidExchanges, {"index": 0}, mending, NIGHT, ((1, value),), ())
                if not is_plain_integer(value):
                    self.check_raises(InvalidExchanges, {"index": 0}, mending, NIGHT, ((value, "x"),), ())

    def test_the_last_row_is_the_last_index(self):
        for script in (NIGHT, Script("cloth 2 5"), Script("cloth 2 5", *["carry 0"] * 10)):
            many = len(script.rows)
            self.assertEqual(mending(script, ((many - 1, "x"),), ()), ((),))
            self.check_raises(InvalidExchanges, {"index": 0}, mending, script, ((many, "x"),), ())

    def test_exchanges_come_before_wishes(self):
        for value in all_but(lambda value: isinstance(value, tuple)):
            with self.subTest(type(value).__name__):
                self.check_raises(InvalidExchanges, {"index": 0}, mending, NIGHT, ((3, ""),), value)
                self.check_raises(InvalidWishes, {"index": None}, mending, NIGHT, (), value)
        self.check_raises(InvalidWishes, {"index": None}, mending, NIGHT, (), [("still", 1)])
        self.check_raises(InvalidWishes, {"index": 0}, mending, NIGHT, (), ("still", 1))


def hash_of(exchanges):
    """A number that tells these exchanges from others, the same in each run."""
    return sum((EXCHANGES.index(exchange) + 1) * 7 ** at for at, exchange in enumerate(exchanges))


if __name__ == "__main__":
    unittest.main()
