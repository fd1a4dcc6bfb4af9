"""drawnrings.scripts: rows, reading, what a script tells of itself, and what is none."""

import itertools
import unittest

from drawnrings.errors import InvalidNumber, InvalidRows, InvalidText
from drawnrings.scripts import Script
from tests.helpers import Agreeable, Case, all_but, is_plain_integer, values_of_all_kinds

CLOTH = "cloth 2 5"


def is_cloth_row(value):
    return isinstance(value, str) and value == "cloth 2 5"


def is_move_row(value):
    return isinstance(value, str) and value in ("left 1 to 0", "some to 0")


def is_text(value):
    return isinstance(value, str) and value in ("cloth 2 5", "cloth 2 5\nleft 1 to 0")


class Examples(Case):
    def test_examples_of_the_document(self):
        night = Script("cloth 2 5", "left 1 to 0", "right 1 to 20")
        self.assertEqual(night.cloth, (2, 5))
        self.assertEqual(night.least, 1)
        self.assertIs(night.known, True)
        self.assertEqual(night.change, 0)
        self.assertEqual(repr(night), "Script of 2 moves")
        self.assertEqual(len(Script("cloth 1 2")), 0)
        self.assertIs(Script.read(str(night)) == night, True)
        self.assertEqual(Script("cloth 1 2 from -9").cloth, (1, 2, -9))
        self.assertEqual(Script("cloth 1 9", "off left", "left 3 to -4", "on right 7").least, 4)
        self.assertIs(night.with_row(2, "some to 3").known, False)
        self.assertEqual(Script("cloth 2 5", "off left", "on right 1").change, 0)
        self.check_raises(InvalidRows, {"index": 0}, Script, "cloth 2 2")


class Cloths(Case):
    def check_cloth(self, row, cloth):
        with self.subTest(row):
            if cloth is None:
                self.check_raises(InvalidRows, {"index": 0}, Script, row)
            else:
                self.assertEqual(Script(row).cloth, cloth)
                self.assertIs(type(Script(row).cloth), tuple)

    def test_pairs(self):
        for near, far in itertools.product(range(-1, 12), repeat=2):
            fits = 1 <= near < far <= 9
            self.check_cloth(f"cloth {near} {far}", (near, far) if fits else None)

    def test_ends_of_the_rail(self):
        for end in range(-105, 106):
            self.check_cloth(f"cloth 3 4 from {end}", (3, 4, end) if -99 <= end <= 99 else None)

    def test_pairs_with_an_end(self):
        for near, far in itertools.product(range(-1, 12), repeat=2):
            fits = 1 <= near < far <= 9
            self.check_cloth(f"cloth {near} {far} from -7", (near, far, -7) if fits else None)

    def test_what_is_no_row_of_a_cloth(self):
        for row in (
            "", "cloth", "cloth 2", "cloth 2 5 ", " cloth 2 5", "cloth  2 5", "cloth 2  5", "cloth 2 5 7",
            "cloth 2 5 from", "cloth 2 5 from ", "cloth 2 5 from 3 ", "cloth 2 5 from  3", "cloth 2 5  from 3",
            "cloth 2 5 from 3 4", "cloth 2 5 from 3 from 4", "cloth 2 5 to 3", "cloth 2 5 From 3", "Cloth 2 5",
            "CLOTH 2 5", "cloths 2 5", "cloth 02 5", "cloth 2 05", "cloth +2 5", "cloth 2 +5", "cloth -0 5",
            "cloth 2 5 from -0", "cloth 2 5 from 00", "cloth 2 5 from 07", "cloth 2 5 from -07",
            "cloth 2 5 from +7", "cloth 2 5 from --7", "cloth 2 5 from - 7", "cloth 2 5 from 7-",
            "cloth 2 5 from 1_0", "cloth 2 5 from 7.", "cloth 2 5 from 7.0", "cloth 2 5 from 1e1",
            "cloth 2 5 from 0x7", "cloth 2 5 from x", "cloth 2,5", "cloth two five", "cloth 5 2", "cloth 2 2",
            "cloth 2 5\n", "\ncloth 2 5", "cloth\n2 5", "cloth 2 5 from\n3", "cloth 2 5 from 3\n",
            "cloth 2 5 from " + "9" * 40, "cloth 2 5 from -" + "9" * 40, "cloth 2 5 from " + "0" * 1900 + "7",
            "2 5", "from 3", "left 1 to 0", "some to 0", "carry 0", "off left", "on left 0",
        ):
            self.check_cloth(row, None)


class Moves(Case):
    def check_move(self, row, fits):
        with self.subTest(row):
            if fits:
                self.assertEqual(Script(CLOTH, row).rows, (CLOTH, row))
                self.assertEqual(len(Script(CLOTH, row)), 1)
            else:
                self.check_raises(InvalidRows, {"index": 1}, Script, CLOTH, row)

    def test_drawings(self):
        for side, ring in itertools.product(("left", "right"), range(-1, 13)):
            for place in (-101, -100, -99, -98, -10, -9, -1, 0, 1, 9, 10, 98, 99, 100, 101):
                self.check_move(f"{side} {ring} to {place}", 1 <= ring <= 5 and -99 <= place <= 99)

    def test_places_of_each_form(self):
        for form in ("left 1 to {}", "right 5 to {}", "some to {}", "carry {}", "on left {}", "on right {}"):
            for place in range(-110, 111):
                self.check_move(form.format(place), -99 <= place <= 99)
            for word in (
                "00", "01", "007", "-0", "-00", "-01", "-099", "099", "+0", "+1", "--1", "-", "+", "- 1", "1-", "",
                "1_0", "1.", "1.0", "1e1", "0x1", "x", "one", "1,", "1;", "'1'", "1 ", " 1", "1  ", "1\n", "\n1",
                "1 2", "1 to 2", "9" * 40, "-" + "9" * 40, "0" * 1900,
            ):
                self.check_move(form.format(word), False)

    def test_rings_of_a_drawing(self):
        for side in ("left", "right"):
            for word in ("01", "+1", "-1", "-0", "0", "6", "10", "", "1.", "x", "1 ", " 1", "1_1", "\n1", "9" * 40):
                self.check_move(f"{side} {word} to 0", False)

    def test_takings_off(self):
        for row in ("off left", "off right"):
            self.check_move(row, True)
        for row in (
            "off", "off ", "off  left", "off left ", " off left", "off left 0", "off left 1", "off 1", "off some",
            "off Left", "Off left", "OFF LEFT", "off leftright", "off left right", "offleft", "off left\n", "off\nleft",
        ):
            self.check_move(row, False)

    def test_what_is_no_move(self):
        for row in (
            "", " ", "\n", "left", "right", "some", "carry", "on", "left 1", "left to 0", "left 1 0", "left 1 to",
            "left 1 to ", "left 1  to 0", "left  1 to 0", "left 1 to  0", " left 1 to 0", "left 1 to 0 ",
            "left 1 to 0 0", "left 1 at 0", "left 1 To 0", "Left 1 to 0", "LEFT 1 TO 0", "left1 to 0",
            "left 1to 0", "left 1 to0", "left\n1 to 0", "left 1\nto 0", "left 1 to\n0", "left left 1 to 0",
            "first 1 to 0", "middle 1 to 0", "right 1", "right to 0", "right 1 0", "right 1 at 0", "right 1 to 0 ",
            "some 1 to 0", "some 0", "some to", "some to ", "some  to 0", "some to  0", " some to 0", "Some to 0",
            "some at 0", "some to 0 0", "some left to 0", "carry to 0", "carry 1 to 0", "carry left 0", "Carry 0",
            "carry  0", "carry 0 0", "on 0", "on left", "on right", "on left to 0", "on left 1 to 0", "on some 0",
            "on Left 0", "On left 0", "on  left 0", "on left  0", "on left 0 0", "on 0 left", "onleft 0",
            "cloth 2 5", "cloth 2 5 from 0", "left 1 to 0\nleft 1 to 0", "undo", "draw 0 to 0", "# left 1 to 0",
        ):
            self.check_move(row, False)


class Rows(Case):
    def test_one_to_eleven_rows(self):
        for many in range(15):
            rows = [CLOTH, *["carry 1"] * (many - 1)][:many]
            with self.subTest(many=many):
                if 1 <= many <= 11:
                    self.assertEqual(Script(*rows).rows, tuple(rows))
                else:
                    self.check_raises(InvalidRows, {"index": None}, Script, *rows)

    def test_the_number_of_rows_is_looked_at_first(self):
        self.check_raises(InvalidRows, {"index": None}, Script, *["x"] * 12)
        self.check_raises(InvalidRows, {"index": None}, Script, *[None] * 12)
        self.check_raises(InvalidRows, {"index": None}, Script, *[CLOTH] * 200)

    def test_the_first_row_that_is_none_in_its_place_is_told(self):
        for many in range(1, 12):
            rows = [CLOTH, *["carry 1"] * (many - 1)]
            for wrong in itertools.chain(itertools.combinations(range(many), 1), itertools.combinations(range(many), 2)):
                for bad in ("x", None, ("carry 1",)):
                    told = [bad if index in wrong else row for index, row in enumerate(rows)]
                    with self.subTest(many=many, wrong=wrong, bad=bad):
                        self.check_raises(InvalidRows, {"index": wrong[0]}, Script, *told)

    def test_cloth_first_and_nowhere_else(self):
        self.check_raises(InvalidRows, {"index": 0}, Script, "carry 1", CLOTH)
        self.check_raises(InvalidRows, {"index": 1}, Script, CLOTH, CLOTH)
        self.check_raises(InvalidRows, {"index": 2}, Script, CLOTH, "carry 1", CLOTH, "x")

    def test_values_of_all_kinds(self):
        for value in all_but(is_cloth_row):
            with self.subTest(type(value).__name__):
                self.check_raises(InvalidRows, {"index": 0}, Script, value)
                self.check_raises(InvalidRows, {"index": 0}, Script, value, "carry 1")
        for value in all_but(is_move_row):
            with self.subTest(type(value).__name__):
                self.check_raises(InvalidRows, {"index": 1}, Script, CLOTH, value)
                self.check_raises(InvalidRows, {"index": 2}, Script, CLOTH, "carry 1", value, value)

    def test_rows_is_a_tuple_of_what_was_passed(self):
        rows = ("cloth 1 9 from 99", "left 5 to -99", "right 5 to 99", "some to 0", "carry -99", "off left",
                "off right", "on left 7", "on right -7")
        script = Script(*rows)
        self.assertEqual(script.rows, rows)
        self.assertIs(type(script.rows), tuple)
        self.assertEqual(script.cloth, (1, 9, 99))
        self.assertEqual(len(script), 8)


class Reading(Case):
    def test_reading_what_was_written(self):
        for rows in (
            (CLOTH,),
            ("cloth 1 2 from -99", "some to 99"),
            (CLOTH, "left 5 to 0", "off right", "on left -3"),
            (CLOTH, *["carry 1"] * 10),
        ):
            script = Script(*rows)
            with self.subTest(rows):
                self.assertEqual(script.text, "\n".join(rows))
                self.assertEqual(str(script), script.text)
                self.assertIs(type(Script.read(script.text)), Script)
                self.assertEqual(Script.read(script.text).rows, rows)
                self.assertEqual(Script.read(text=script.text), script)

    def test_texts_that_are_no_scripts(self):
        for text in (
            "", "\n", " ", "cloth 2 2", "\ncloth 2 5", "cloth 2 5\n", "cloth 2 5\n\n", "cloth 2 5\n\ncarry 1",
            "cloth 2 5\ncarry 1\n", "cloth 2 5 \ncarry 1", "cloth 2 5\n carry 1", "cloth 2 5;carry 1",
            "cloth 2 5 carry 1", "carry 1\ncloth 2 5", "carry 1",
            "cloth 2 5\ncloth 2 5", "cloth 2 5" + "\ncarry 1" * 11, "cloth 2 5" + "\n" * 1900, "x" * 2000,
        ):
            with self.subTest(text):
                self.check_given(InvalidText, text, Script.read, text)

    def test_ten_moves_can_be_read(self):
        self.assertEqual(len(Script.read("cloth 2 5" + "\ncarry 1" * 10)), 10)

    def test_values_of_all_kinds(self):
        for value in all_but(is_text):
            with self.subTest(type(value).__name__):
                self.check_given(InvalidText, value, Script.read, value)
                self.check_given(InvalidText, value, Script.read, text=value)


def least_by_trying(rows):
    """The least number of rings for which no move of these rows, without that of the cloth, has too few."""
    for many in itertools.count(1):
        rings = many
        for row in rows:
            words = row.split(" ")
            if words[0] in ("left", "right") and rings < int(words[1]):
                break
            if words[0] == "off" and rings < 2:
                break
            rings += {"off": -1, "on": 1}.get(words[0], 0)
        else:
            return many


class Telling(Case):
    def test_least_number_of_single_moves(self):
        for row, least in (
            ("left 1 to 9", 1), ("left 2 to 9", 2), ("left 5 to 9", 5), ("right 1 to 9", 1), ("right 4 to 9", 4),
            ("some to 9", 1), ("carry 9", 1), ("off left", 2), ("off right", 2), ("on left 9", 1), ("on right 9", 1),
        ):
            with self.subTest(row):
                self.assertEqual(Script(CLOTH, row).least, least)

    def test_least_number_hangs_on_the_order(self):
        for rows, least in (
            ((), 1),
            (("off left", "on left 0"), 2),
            (("on left 0", "off left"), 1),
            (("on left 0", "off left", "off right"), 2),
            (("on right 0", "left 2 to 0"), 1),
            (("left 2 to 0", "on right 0"), 2),
            (("off left", "right 2 to 0"), 3),
            (("right 2 to 0", "off left"), 2),
            (("off left",) * 10, 11),
            (("on left 0",) * 10, 1),
            (("on left 0",) * 5 + ("off left",) * 5, 1),
            (("off left",) * 9 + ("right 5 to 0",), 14),
            (("left 5 to 0", "off left", "left 3 to 0"), 5),
            (("left 3 to 0", "off left", "left 5 to 0"), 6),
            (("some to 0", "off right"), 2),
        ):
            with self.subTest(rows):
                self.assertEqual(Script(CLOTH, *rows).least, least)

    def test_least_number_and_change_in_all_orders(self):
        rows = ("left 1 to 0", "right 3 to 0", "left 5 to 0", "off left", "off right", "on left 0", "on right 0",
                "some to 0", "carry 3")
        for many in range(5):
            for told in itertools.product(rows, repeat=many):
                script = Script(CLOTH, *told)
                with self.subTest(told):
                    self.assertEqual(script.least, least_by_trying(told))
                    change = sum({"on": 1, "of": -1}.get(row[:2], 0) for row in told)
                    self.assertEqual(script.change, change)

    def test_known(self):
        for row in ("left 1 to 0", "right 1 to 0", "carry 0", "off left", "off right", "on left 0", "on right 0"):
            with self.subTest(row):
                self.assertIs(Script(CLOTH, row).known, True)
                self.assertIs(Script(CLOTH, row, "some to 0").known, False)
                self.assertIs(Script(CLOTH, "some to 0", row).known, False)
        self.assertIs(Script(CLOTH).known, True)
        self.assertIs(Script(CLOTH, "some to -99").known, False)

    def test_length_and_repr_for_all_numbers(self):
        for many in range(11):
            script = Script(CLOTH, *["off left"] * many)
            with self.subTest(many=many):
                self.assertEqual(len(script), many)
                self.assertEqual(repr(script), f"Script of {many} moves")
                self.assertEqual(script.change, -many)

    def test_always_true(self):
        self.assertIs(bool(Script(CLOTH)), True)
        self.assertIs(bool(Script(CLOTH, "carry 0")), True)

    def test_equal_if_the_rows_are(self):
        rows = (CLOTH, "left 1 to 0", "carry 0")
        self.assertIs(Script(*rows) == Script(*rows), True)
        self.assertIs(Script(*rows) != Script(*rows), False)
        for other in (
            (CLOTH,), (CLOTH, "left 1 to 0"), (CLOTH, "carry 0", "left 1 to 0"), (CLOTH, "right 1 to 0", "carry 0"),
            ("cloth 2 6", "left 1 to 0", "carry 0"), ("cloth 2 5 from 0", "left 1 to 0", "carry 0"),
            (CLOTH, "left 1 to 0", "carry 1"), (CLOTH, "left 1 to 0", "carry 0", "carry 0"),
        ):
            with self.subTest(other):
                self.assertIs(Script(*rows) == Script(*other), False)
                self.assertIs(Script(*rows) != Script(*other), True)

    def test_not_equal_to_values_of_other_classes(self):
        script = Script(CLOTH)
        for value in [*all_but(lambda value: isinstance(value, Script)), script.rows, list(script.rows), script.cloth]:
            with self.subTest(type(value).__name__):
                self.assertIs(script == value, False)
                self.assertIs(script != value, True)
                if not isinstance(value, Agreeable):
                    self.assertIs(value == script, False)


class WithRow(Case):
    def setUp(self):
        self.script = Script(CLOTH, "left 1 to 0", "some to 9")

    def test_each_row(self):
        self.assertEqual(self.script.with_row(0, "cloth 1 2 from 3").rows, ("cloth 1 2 from 3", "left 1 to 0", "some to 9"))
        self.assertEqual(self.script.with_row(1, "off left").rows, (CLOTH, "off left", "some to 9"))
        self.assertEqual(self.script.with_row(2, "carry 4").rows, (CLOTH, "left 1 to 0", "carry 4"))
        self.assertEqual(self.script.with_row(index=2, row="carry 4").rows, (CLOTH, "left 1 to 0", "carry 4"))
        self.assertEqual(self.script.with_row(row=CLOTH, index=0), self.script)

    def test_what_is_told_of_the_new_script(self):
        new = self.script.with_row(2, "off right")
        self.assertEqual((new.cloth, new.least, new.known, new.change, len(new)), ((2, 5), 2, True, -1, 2))
        self.assertEqual(new.text, "cloth 2 5\nleft 1 to 0\noff right")

    def test_the_script_stays_what_it_was(self):
        self.script.with_row(1, "off left")
        with self.assertRaises(InvalidRows):
            self.script.with_row(1, "x")
        self.assertEqual(self.script.rows, (CLOTH, "left 1 to 0", "some to 9"))
        self.assertEqual((self.script.least, self.script.change, self.script.known), (1, 0, False))

    def test_what_is_no_index_of_a_row(self):
        for index in (-1, -2, -3, 3, 4, 11, 10 ** 39, -10 ** 39, True, False):
            with self.subTest(index):
                self.check_given(InvalidNumber, index, self.script.with_row, index, "carry 4")
        for value in all_but(is_plain_integer):
            with self.subTest(type(value).__name__):
                self.check_given(InvalidNumber, value, self.script.with_row, value, "carry 4")

    def test_what_is_no_row_in_this_place(self):
        for index, row in ((0, "carry 4"), (0, "cloth 2 2"), (1, CLOTH), (2, "x"), (2, "carry 4 ")):
            with self.subTest(index=index, row=row):
                self.check_raises(InvalidRows, {"index": index}, self.script.with_row, index, row)
        for value in all_but(is_move_row):
            with self.subTest(type(value).__name__):
                self.check_raises(InvalidRows, {"index": 1}, self.script.with_row, 1, value)
                self.check_raises(InvalidRows, {"index": 2}, self.script.with_row, index=2, row=value)
        for value in all_but(is_cloth_row):
            with self.subTest(type(value).__name__):
                self.check_raises(InvalidRows, {"index": 0}, self.script.with_row, 0, value)

    def test_the_index_is_looked_at_first(self):
        for value in values_of_all_kinds():
            with self.subTest(type(value).__name__):
                self.check_given(InvalidNumber, 3, self.script.with_row, 3, value)
                self.check_given(InvalidNumber, None, self.script.with_row, None, value)


class Staying(Case):
    def test_equal_calls_return_equal_results(self):
        script = Script(CLOTH, "off left", "some to 1")
        for name in ("rows", "text", "cloth", "least", "known", "change"):
            with self.subTest(name):
                self.assertEqual(getattr(script, name), getattr(script, name))
                self.assertEqual(getattr(script, name), getattr(Script(*script.rows), name))


if __name__ == "__main__":
    unittest.main()
