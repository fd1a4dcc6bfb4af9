"""drawnrings.checker: what is no claim, and any values in both places."""

import unittest

from drawnrings.certificates import certify_alike, certify_kept, certify_window
from drawnrings.checker import accepts
from drawnrings.scripts import Script
from tests.helpers import Case, all_but, is_plain_integer, values_of_all_kinds

NIGHT = Script("cloth 2 5", "left 1 to 0", "right 1 to 20")
LEFT = Script("cloth 2 5", "left 1 to 0")
CHILD = Script("cloth 2 5", "some to 0", "right 1 to 30")
TEXT = NIGHT.text
GREAT = 10 ** 39

# One claim of each word, each with a certificate that is one for it.
RIGHT = (
    (("alike", TEXT, TEXT), (11, 11)),
    (("unlike", TEXT, LEFT.text, 2, 1), ()),
    (("covered", TEXT, 0, 20, 5), ()),
    (("free", TEXT, 20, 30, 5), ()),
    (("open", TEXT, 0, 20, 4), ()),
    (("kept", TEXT, 0, 20, 5), 11),
)

NO_TEXTS = (
    "", " ", "\n", "cloth", "cloth 2 2", "cloth 2 5\n", "\ncloth 2 5", "cloth 2 5 ", " cloth 2 5", "cloth 2  5",
    "cloth +2 5",
    "cloth 2 5\nleft 1 to 0 ", "cloth 2 5\nleft 1 to -0", "cloth 2 5\nleft 1 to 00", "cloth 2 5\nleft 1 to +1",
    "cloth 2 5\n\nleft 1 to 0", "cloth 2 5\nleft 1 to 0\n", "cloth 2 5\nLeft 1 to 0", "cloth 2 5\nleft 6 to 0",
    "cloth 2 5\nleft 1 to 100", "cloth 2 5, left 1 to 0", "left 1 to 0", "left 1 to 0\ncloth 2 5",
    "cloth 2 5\ncloth 2 5",
    "cloth 2 5\nsome to 0", "cloth 2 5\nleft 1 to 0\nsome to 99", CHILD.text, "cloth 2 5" + "\ncarry 0" * 11,
    "cloth 2 5 from 100", "Script of 2 moves", "night", b"cloth 2 5", ("cloth 2 5",), ["cloth 2 5"], NIGHT, NIGHT.rows,
    None, 7, True,
)


def is_text(value):
    return isinstance(value, str) and value.startswith("cloth 2 5")


class Forms(Case):
    def test_the_claims_from_which_the_others_are_made(self):
        for claim, paper in RIGHT:
            self.assertIs(accepts(claim, paper), True, claim)

    def test_one_element_less_and_one_more(self):
        for claim, paper in RIGHT:
            for at in range(len(claim)):
                self.assertIs(accepts(claim[:at] + claim[at + 1:], paper), False)
            for at in range(len(claim) + 1):
                for value in (*claim, None, 0, 5, ()):
                    self.assertIs(accepts((*claim[:at], value, *claim[at:]), paper), False)
            for many in range(len(claim)):
                self.assertIs(accepts(claim[:many], paper), False)
                self.assertIs(accepts((), paper), False)

    def test_other_rows_than_tuples(self):
        for claim, paper in RIGHT:
            for value in (
                list(claim), dict.fromkeys(claim), set(claim), str(claim), claim[1], (claim,), [claim], (claim, paper),
                iter(claim),
            ):
                self.assertIs(accepts(value, paper), False)
            if paper == () or isinstance(paper, tuple):
                self.assertIs(accepts(claim, list(paper)), False)

    def test_other_words(self):
        for claim, paper in RIGHT:
            for word in (
                "", claim[0].upper(), claim[0].title(), claim[0] + " ", " " + claim[0], claim[0] + "\n", claim[0][:-1],
                "covers",
                "frees", "still", "certified", claim[0].encode(), (claim[0],), [claim[0]], None, 0, True,
            ):
                self.assertIs(accepts((word, *claim[1:]), paper), False, word)
        words = [claim[0] for claim, _ in RIGHT]
        for claim, paper in RIGHT:
            told = [word for word in words if accepts((word, *claim[1:]), paper)]
            wanted = {"covered": ["covered"], "free": ["free", "open"], "open": ["open"]}
            self.assertEqual(told, wanted.get(claim[0], [claim[0]]))

    def test_texts(self):
        for claim, paper in RIGHT:
            places = (1, 2) if claim[0] in ("alike", "unlike") else (1,)
            for at in places:
                for value in (*NO_TEXTS, *all_but(is_text)):
                    row = list(claim)
                    row[at] = value
                    self.assertIs(accepts(tuple(row), paper), False, (claim[0], value))
        for words in (("alike", CHILD.text, CHILD.text), ("alike", "x", "x")):
            self.assertIs(accepts(words, (3000, 3000)), False)

    def test_numbers(self):
        for claim, paper in RIGHT:
            for at in range(3 if claim[0] == "unlike" else 2, len(claim)):
                for value in all_but(is_plain_integer):
                    row = list(claim)
                    row[at] = value
                    self.assertIs(accepts(tuple(row), paper), False, (claim[0], at))

    def test_true_in_the_place_of_a_number(self):
        for claim, paper, value in (
            (("unlike", TEXT, LEFT.text, 1, 1), (), True),
            (("covered", TEXT, 1, 20, 5), (), True), (("covered", TEXT, 0, 20, 5), (), False),
            (("free", LEFT.text, -9, 0, 1), (), False), (("free", LEFT.text, -9, 0, 1), (), True),
            (("open", TEXT, 0, 20, 1), (), True), (("open", TEXT, 1, 20, 1), (), True),
            (("open", TEXT, -1, 1, 1), (), True),
            (("kept", LEFT.text, 0, 2, 2), 11, False),
        ):
            self.assertIs(accepts(claim, paper), True, claim)
            changed = 0
            for at in range(2, len(claim)):
                if type(claim[at]) is int and claim[at] == value:
                    changed = changed + 1
                    self.assertIs(accepts((*claim[:at], value, *claim[at + 1:]), paper), False, claim)
            self.assertGreater(changed, 0, claim)

    def test_windows_that_are_too_narrow(self):
        text = Script("cloth 2 5", "left 1 to 0", "left 2 to 4").text
        for word, paper, a, n in (("covered", (), 0, 5), ("free", (), 99, 3), ("open", (), -5, 5), ("kept", 11, 0, 5)):
            for wide in range(-3, 4):
                self.assertIs(accepts((word, text, a, a + wide, n), paper), wide >= 2, (word, wide))
            self.assertIs(accepts((word, text, a, -GREAT, n), paper), False)

    def test_numbers_below_the_least_one(self):
        script = Script("cloth 2 5", "off left", "off right", "left 2 to 0", "right 1 to 0")
        self.assertEqual(script.least, 4)
        for n in range(-2, 9):
            for word, a, paper in (("covered", 0, ()), ("free", 0, ()), ("open", 0, ()), ("kept", 0, 14)):
                told = accepts((word, script.text, a, a + 2, n), paper)
                if n < 4:
                    self.assertIs(told, False, (word, n))
            self.assertIs(accepts(("open", script.text, 0, 2, n), ()), n >= 4)
            self.assertIs(accepts(("free", script.text, 0, 2, n), ()), n >= 4)
        script = Script("cloth 2 5", "off left", "left 3 to 0")
        self.assertEqual(script.least, 4)
        for word, paper in (("covered", ()), ("kept", 40)):
            # The first one of three rings is drawn to -4 at most, the last one to 0 at least.
            told = [n for n in range(-2, 9) if accepts((word, script.text, -4, 0, n), paper)]
            self.assertEqual(told, [4, 5, 6, 7, 8])

    def test_rings_that_are_not_there(self):
        one, other = Script("cloth 2 5", "off left", "left 1 to 0"), Script("cloth 2 5", "off left", "left 1 to 1")
        for n in range(2, 9):
            told = [ring for ring in range(-3, 15) if accepts(("unlike", one.text, other.text, n, ring), ())]
            self.assertEqual(told, list(range(1, n)))
            self.assertIs(accepts(("unlike", one.text, other.text, n, GREAT), ()), False)
            self.assertIs(accepts(("unlike", one.text, other.text, n, -GREAT), ()), False)


class AnyValues(Case):
    def test_in_both_places(self):
        for claim in values_of_all_kinds():
            for paper in values_of_all_kinds():
                self.assertIs(accepts(claim, paper), False)

    def test_as_a_certificate(self):
        for claim, right in RIGHT:
            for value in values_of_all_kinds():
                wanted = type(value) is tuple and value == right
                if claim[0] == "kept":
                    wanted = type(value) is int and 11 <= value <= 3005
                self.assertIs(accepts(claim, value), wanted, (claim[0], type(value).__name__))
                self.assertIs(accepts(claim, (value,)), False)
                self.assertIs(accepts(claim, [value]), False)
                fits = claim[0] == "alike" and type(value) is int and value == 99
                self.assertIs(accepts(claim, (11, value)), fits)
                self.assertIs(accepts(claim, (value, 11)), fits)

    def test_in_each_place_of_a_claim(self):
        for claim, right in RIGHT:
            for at in range(len(claim)):
                for value in values_of_all_kinds():
                    row = (*claim[:at], value, *claim[at + 1:])
                    self.assertIs(type(accepts(row, right)), bool)
                    self.assertIs(type(accepts(row, value)), bool)
                    if at == 0 or type(value) is not type(claim[at]):
                        self.assertIs(accepts(row, right), False, row)

    def test_nothing_is_changed(self):
        for claim, right in RIGHT:
            given = [list(claim), {"claim": claim}]
            before = repr(given)
            accepts(given, given)
            accepts((claim[0], given, *claim[2:]), given)
            self.assertEqual(repr(given), before)
            for _ in range(3):
                self.assertIs(accepts(claim, right), True)

    def test_the_certificates_of_one_claim_for_another(self):
        pairs = [
            certify_alike(NIGHT, NIGHT), certify_alike(NIGHT, LEFT), certify_window(NIGHT, 0, 20, 5),
            certify_window(NIGHT, 0, 20, 4),
            certify_window(NIGHT, 20, 30, 4), certify_kept(NIGHT, 0, 20, 5), certify_kept(NIGHT, 0, 20, 4),
        ]
        for claim, paper in pairs:
            for _, other in pairs:
                self.assertIs(accepts(claim, other), type(other) is type(paper) and other == paper, (claim, other))


if __name__ == "__main__":
    unittest.main()
