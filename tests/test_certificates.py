"""drawnrings.certificates: claims with what the checker accepts them by."""

import random
import unittest

from drawnrings.asking import covers, frees, parting
from drawnrings.certificates import certify_alike, certify_kept, certify_window
from drawnrings.checker import accepts
from drawnrings.errors import InvalidNumber, InvalidPlace, NotAScript, Unknown
from drawnrings.scripts import Script
from tests import model
from tests.helpers import Case, all_but, is_plain_integer, numbers_in, pseudo_scripts, values_of_all_kinds
from tests.test_checker import nearly

NIGHT = Script("cloth 2 5", "left 1 to 0", "right 1 to 20")
TWICE = Script("cloth 2 5", "left 1 to 9", "left 1 to 0")
CHILD = Script("cloth 2 5", "some to 0", "right 1 to 30")

# Its least number is 4; its first row with `some` is the fourth one.
OFF_CHILD = Script("cloth 2 5", "off left", "off right", "off left", "some to 0", "some to 1")

WINDOW_CALLS = (certify_window, certify_kept)
GREAT = 10 ** 40


class CertificateCase(Case):
    def check_pair(self, told):
        """A pair of a claim and a certificate that the checker accepts."""
        self.assertIs(type(told), tuple)
        self.assertEqual(len(told), 2)
        self.assertIs(type(told[0]), tuple)
        self.assertIs(accepts(*told), True, told)
        return told


class Examples(CertificateCase):
    def test_examples_of_the_document(self):
        self.assertEqual(certify_alike(TWICE, NIGHT)[0][0], "unlike")
        self.assertEqual(certify_alike(NIGHT, NIGHT)[0][0], "alike")
        self.assertEqual(certify_window(NIGHT, 0, 20, 5)[0][0], "covered")
        self.assertEqual(certify_window(NIGHT, 20, 25, 9)[0][0], "free")
        self.assertEqual(certify_kept(NIGHT, 0, 20, 3)[0][4], 3)
        self.assertIsNone(certify_alike(NIGHT, Script("cloth 2 6")))

    def test_by_name(self):
        self.assertEqual(certify_alike(other=NIGHT, one=TWICE)[0], ("unlike", TWICE.text, NIGHT.text, 1, 1))
        self.assertEqual(certify_window(n=5, b=20, a=0, script=NIGHT), (("covered", NIGHT.text, 0, 20, 5), ()))
        self.assertEqual(certify_kept(n=3, b=20, a=0, script=NIGHT), (("open", NIGHT.text, 0, 20, 3), ()))


class Alike(CertificateCase):
    def check(self, one, other):
        parts = parting(one, other)
        told = certify_alike(one, other)
        if type(parts) is str:
            self.assertIsNone(told)
            return parts
        claim, paper = self.check_pair(told)
        self.assertEqual(claim[1:3], (str(one), str(other)))
        if parts is None:
            self.assertEqual((claim[0], len(claim)), ("alike", 3))
            self.assertEqual((type(paper), len(paper)), (tuple, 2))
            return "alike"
        self.assertEqual((claim[0], claim[3:], paper), ("unlike", parts, ()))
        self.assertIs(accepts(("alike", one.text, other.text), (3000, 3000)), False)
        return "unlike"

    def test_nearly_the_same_scripts(self):
        told = random.Random("certified")
        words = []
        for place in (3, 9, 30, 98):
            for rows in pseudo_scripts(f"certified {place}", 60, 10, place):
                one = Script(*rows)
                for _ in range(3):
                    words.append(self.check(one, Script(*nearly(rows, told))))
                words.append(self.check(one, one))
        for word in ("alike", "unlike", "rings"):
            self.assertGreater(words.count(word), 10, word)

    def test_scripts_of_any_kinds(self):
        scripts = [Script(*rows) for rows in pseudo_scripts("any two", 24, 5, 5)]
        words = [self.check(one, other) for one in scripts for other in scripts]
        self.assertGreater(words.count("cloth"), 100)

    def test_other_cloths_and_other_numbers_of_rings(self):
        for cloth in ("cloth 2 6", "cloth 1 5", "cloth 2 5 from 0"):
            self.assertIsNone(certify_alike(NIGHT, NIGHT.with_row(0, cloth)))
            self.assertIsNone(certify_alike(NIGHT.with_row(0, cloth), NIGHT))
        for move in ("off left", "off right", "on left 0", "on right 20"):
            self.assertIsNone(certify_alike(NIGHT, Script(*NIGHT.rows, move)))
            self.assertIsNone(certify_alike(Script(*NIGHT.rows, move), NIGHT))

    def test_scripts_with_great_certificates(self):
        for cloth in ("cloth 1 2", "cloth 8 9", "cloth 1 9", "cloth 1 9 from -99", "cloth 1 2 from 99"):
            for ring in (1, 5):
                for way, place in ((99, 99), (99, -99), (-99, 99), (-99, -99)):
                    carries = [f"carry {way}"] * 8
                    script = Script(cloth, f"left {ring} to {place}", *carries, f"right {ring} to {-place}")
                    self.assertEqual(self.check(script, script), "alike")
                    script = Script(cloth, f"right {ring} to {place}", *carries, f"left {ring} to {-place}")
                    self.assertEqual(self.check(script, script), "alike")

    def test_many_rings_at_first_and_at_the_end(self):
        one = Script("cloth 2 5", *["off right"] * 9, "left 5 to 0")
        other = Script("cloth 2 5", *["off right"] * 6, "left 5 to 0", *["off right"] * 3)
        grown = Script("cloth 1 9", "left 5 to 99", *["on right 0"] * 9)
        # These are settled at 11 already, but with the least number there are 14 rings at first, or at the end.
        self.assertEqual((one.least, other.least, grown.least + grown.change), (14, 11, 14))
        for scripts in ((one, one), (one, other), (other, one), (grown, grown)):
            self.assertEqual(self.check(*scripts), "alike")


class Windows(CertificateCase):
    def test_the_first_word_that_is_so(self):
        told = random.Random("words")
        words = []
        for rows in pseudo_scripts("words", 150, 7, 8):
            script = Script(*rows)
            for _ in range(8):
                a = told.randint(-20, 12)
                b = a + told.choice((2, 3, 6, 12))
                n = script.least + told.randint(0, 15)
                args = (script.cloth, rows[1:], a, b, n)
                word = "open"
                if model.surely_free(*args):
                    word = "free"
                if model.surely_covered(*args):
                    word = "covered"
                with self.subTest(rows, a=a, b=b, n=n):
                    pair = self.check_pair(certify_window(script, a, b, n))
                    self.assertEqual(pair, ((word, script.text, a, b, n), ()))
                words.append(word)
        for word in ("covered", "free", "open"):
            self.assertGreater(words.count(word), 50, word)

    def test_far_numbers(self):
        for a, b, word in (
            (0, 20, "covered"), (0, 21, "open"), (20, GREAT, "free"), (-GREAT, 20, "covered"), (-GREAT, 21, "open"),
        ):
            pair = self.check_pair(certify_window(NIGHT, a, b, GREAT))
            self.assertEqual(pair, ((word, NIGHT.text, a, b, GREAT), ()))


class Kept(CertificateCase):
    def test_kept_or_the_least_number_that_is_open(self):
        told = random.Random("kept or open")
        words = []
        for rows in pseudo_scripts("kept or open", 150, 7, 8):
            script = Script(*rows)
            ends = model.bounds(script.cloth, rows[1:], script.least + 5)
            for _ in range(8):
                a = (ends[0][2] or 0) + told.choice((-2, 0, 0, 0, 1))
                b = max(a + 2, (ends[-1][1] or 0) + told.choice((-1, 0, 0, 0, 2)))
                n = script.least + told.randint(0, 12)
                right = numbers_in(covers(script, a, b), n, n + 200)
                wrong = [number for number in range(n, n + 200) if number not in right]
                with self.subTest(rows, a=a, b=b, n=n):
                    claim, paper = self.check_pair(certify_kept(script, a, b, n))
                    if wrong:
                        self.assertEqual((claim, paper), (("open", script.text, a, b, wrong[0]), ()))
                        self.assertIs(accepts(("kept", script.text, a, b, n), n + 3000), False)
                    else:
                        self.assertEqual(claim, ("kept", script.text, a, b, n))
                        self.assertTrue(type(paper) is int and n <= paper <= n + 3000)
                words.append(claim[0])
        for word in ("kept", "open"):
            self.assertGreater(words.count(word), 100, word)

    def test_the_example_from_all_numbers_on(self):
        for n in range(1, 30):
            claim, paper = self.check_pair(certify_kept(NIGHT, 0, 20, n))
            self.assertEqual(claim, ("open" if n < 5 else "kept", NIGHT.text, 0, 20, n))
            claim, paper = self.check_pair(certify_kept(NIGHT, -3, 20, n))
            self.assertEqual(claim, ("open" if n < 13 else "kept", NIGHT.text, -3, 20, n))

    def test_far_numbers(self):
        left = Script("cloth 2 5", "left 1 to 0")
        self.assertEqual(self.check_pair(certify_kept(NIGHT, 0, 20, GREAT))[0][0], "kept")
        self.assertEqual(self.check_pair(certify_kept(NIGHT, 0, 21, GREAT))[0], ("open", NIGHT.text, 0, 21, GREAT))
        self.assertEqual(self.check_pair(certify_kept(left, 0, GREAT, GREAT))[0][0], "kept")
        self.assertEqual(self.check_pair(certify_kept(left, 0, 2 * GREAT, GREAT))[0][0], "open")
        self.assertEqual(self.check_pair(certify_kept(left, 0, 2 * GREAT, GREAT + 1))[0][0], "kept")

    def test_where_the_rings_are_settled_late(self):
        for cloth in ("cloth 1 2", "cloth 8 9", "cloth 1 9"):
            script = Script(cloth, "right 5 to 99", *["carry 99"] * 8, "left 5 to -99")
            first = covers(script, -99, -90)[0][0]
            for n in (first, first + 1, first + 5000):
                self.assertEqual(self.check_pair(certify_kept(script, -99, -90, n))[0][0], "kept")
            self.assertEqual(self.check_pair(certify_kept(script, -99, -90, first - 1))[0][0], "open")


class Errors(CertificateCase):
    def test_what_is_no_script(self):
        for value in all_but(lambda value: isinstance(value, Script)):
            with self.subTest(type(value).__name__):
                for call in WINDOW_CALLS:
                    self.check_given(NotAScript, value, call, value, 0, 20, 5)
                    self.check_given(NotAScript, value, call, value, None, None, None)
                    self.check_given(NotAScript, value, call, n=None, b=None, a=None, script=value)
                self.check_given(NotAScript, value, certify_alike, value, NIGHT)
                self.check_given(NotAScript, value, certify_alike, NIGHT, value)
                self.check_given(NotAScript, value, certify_alike, value, None)
                self.check_given(NotAScript, value, certify_alike, CHILD, value)
                self.check_given(NotAScript, value, certify_alike, other=CHILD, one=value)
                self.check_given(NotAScript, value, certify_alike, other=value, one=CHILD)

    def test_places(self):
        for call in WINDOW_CALLS:
            for script in (NIGHT, OFF_CHILD):
                for value in all_but(is_plain_integer):
                    with self.subTest(call.__name__, value=type(value).__name__):
                        self.check_given(InvalidPlace, value, call, script, value, 20, 5)
                        self.check_given(InvalidPlace, value, call, script, value, None, None)
                        self.check_given(InvalidPlace, value, call, script, 0, value, 5)
                        self.check_given(InvalidPlace, value, call, script, 0, value, None)
                        self.check_given(InvalidPlace, value, call, b=value, a=0, n=None, script=script)
                for a, b in ((0, 1), (0, 0), (0, -1), (GREAT, GREAT + 1), (GREAT, -GREAT)):
                    self.check_given(InvalidPlace, b, call, script, a, b, 5)
                    self.check_given(InvalidPlace, b, call, script, a, b, None)

    def test_numbers(self):
        for call in WINDOW_CALLS:
            for value in all_but(is_plain_integer):
                with self.subTest(call.__name__, value=type(value).__name__):
                    self.check_given(InvalidNumber, value, call, NIGHT, 0, 20, value)
                    self.check_given(InvalidNumber, value, call, OFF_CHILD, 0, 20, value)
            for n in (3, 0, -1, -GREAT):
                self.check_given(InvalidNumber, n, call, OFF_CHILD, 0, 20, n)
            for n in (0, -1, -GREAT):
                self.check_given(InvalidNumber, n, call, NIGHT, 0, 20, n)
            call(NIGHT, 0, 20, 1)

    def test_unknown_comes_last(self):
        for call in WINDOW_CALLS:
            for n in (4, 5, GREAT):
                self.check_raises(Unknown, {"index": 4}, call, OFF_CHILD, 0, 20, n)
            self.check_raises(Unknown, {"index": 1}, call, CHILD, 3, 30, 7)
        self.check_raises(Unknown, {"index": 4}, certify_alike, OFF_CHILD, CHILD)
        self.check_raises(Unknown, {"index": 1}, certify_alike, CHILD, OFF_CHILD)
        self.check_raises(Unknown, {"index": 4}, certify_alike, NIGHT, OFF_CHILD)
        self.check_raises(Unknown, {"index": 1}, certify_alike, Script("cloth 2 6", "some to 0"), NIGHT)
        self.check_raises(Unknown, {"index": 1}, certify_alike, CHILD, CHILD)

    def test_nothing_is_changed(self):
        for value in values_of_all_kinds():
            if isinstance(value, (list, dict, set)):
                before = repr(value)
                self.check_given(NotAScript, value, certify_kept, value, value, value, value)
                self.assertEqual(repr(value), before)
        for _ in range(2):
            self.assertEqual(certify_window(NIGHT, 0, 20, 5), (("covered", NIGHT.text, 0, 20, 5), ()))
        self.assertEqual(frees(NIGHT, 0, 9), ((1, 3),))


if __name__ == "__main__":
    unittest.main()
