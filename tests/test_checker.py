"""drawnrings.checker: the six claims with right and with wrong certificates; test_claims has what is no claim."""

import itertools
import random
import unittest

from drawnrings.certificates import certify_kept
from drawnrings.checker import accepts, is_alike_within
from drawnrings.lanes import lane_of
from drawnrings.scripts import Script
from tests import model
from tests.helpers import pseudo_scripts

NIGHT = Script("cloth 2 5", "left 1 to 0", "right 1 to 20")
TWICE = Script("cloth 2 5", "left 1 to 9", "left 1 to 0")
LEFT = Script("cloth 2 5", "left 1 to 0")
GREAT = 10 ** 40


def moves_of(script):
    return script.rows[1:]


def plain(*scripts):
    return [(script.cloth, script.rows[1:]) for script in scripts]


def nearly(rows, told):
    """Rows that are these, with one place a little different, two moves exchanged, or one left out."""
    rows = list(rows)
    if len(rows) > 1:
        at = told.randrange(1, len(rows))
        words = rows[at].split(" ")
        kind = told.choice(("place", "place", "exchange", "leave"))
        if kind == "leave":
            del rows[at]
        elif kind == "exchange":
            other = told.randrange(1, len(rows))
            rows[at], rows[other] = rows[other], rows[at]
        elif words[0] != "off":
            rows[at] = " ".join([*words[:-1], str(int(words[-1]) + told.choice((-1, 1)))])
    return tuple(rows)


def alike_with(one, other, rings):
    """Whether two scripts lead to the same standing from so many rings, for all standings."""
    return not model.unlike_rings(one.cloth, moves_of(one), moves_of(other), rings)


def right_certificate(one, other, left, right):
    """Whether (left, right) is a certificate for both scripts being alike, in the words of the document."""
    rings = max(one.least, other.least)
    if one.cloth != other.cloth or one.change != other.change:
        return False
    if not model.settled(plain(one, other), left, right):
        return False
    if max(left, right) > 3000 or min(left, right) < max(rings, rings + one.change):
        return False
    for n in range(rings, left + right + 2 - one.change):
        for ring in model.unlike_rings(one.cloth, moves_of(one), moves_of(other), n):
            if ring <= left + 1 and n + one.change + 1 - ring <= right + 1:
                return False
    return True


class Examples(unittest.TestCase):
    def test_examples_of_the_document(self):
        claim, paper = certify_kept(NIGHT, 0, 20, 5)
        self.assertIs(accepts(claim, paper), True)
        self.assertIs(accepts(claim, 4), False)
        self.assertIs(accepts(("unlike", str(TWICE), str(NIGHT), 2, 2), ()), True)
        self.assertIs(accepts(("covered", str(NIGHT), 0, 20, 4), ()), False)

    def test_by_name(self):
        self.assertIs(accepts(certificate=(), claim=("open", str(NIGHT), 0, 20, 4)), True)
        self.assertIs(accepts(certificate=11, claim=("kept", str(NIGHT), 0, 20, 5)), True)
        self.assertIs(accepts(certificate=None, claim=None), False)


class Windows(unittest.TestCase):
    """covered, free and open."""

    def check(self, script, a, b, n):
        args = (script.cloth, moves_of(script), a, b, n)
        wanted = {
            "covered": model.surely_covered(*args), "free": model.surely_free(*args),
            "open": not model.surely_covered(*args),
        }
        for word, told in wanted.items():
            claim = (word, script.text, a, b, n)
            self.assertIs(accepts(claim, ()), told, claim)
            self.assertIs(accepts(claim, n), False, claim)
            self.assertIs(accepts(claim, (11, 11)), False, claim)

    def test_beside_the_model(self):
        told = random.Random("windows")
        for place in (5, 15):
            for rows in pseudo_scripts(f"windows {place}", 150, 7, place):
                script = Script(*rows)
                for _ in range(12):
                    a = told.randint(-2 * place, place)
                    self.check(script, a, a + told.choice((2, 3, 7, 20)), script.least + told.randint(0, 12))

    def test_at_the_edges_of_a_window(self):
        for rows in pseudo_scripts("edges", 120, 6, 9):
            script = Script(*rows)
            for n in (script.least, script.least + 3, script.least + 14):
                ends = model.bounds(script.cloth, moves_of(script), n)
                places = [place for bound in (ends[0], ends[-1]) for place in bound[1:] if place is not None]
                for place, other in itertools.product(places, repeat=2):
                    for a, b in (
                        (place, other), (place - 1, other), (place, other + 1), (place, place + 2), (other - 2, other),
                    ):
                        if b >= a + 2:
                            self.check(script, a, b, n)

    def test_the_example_at_all_numbers(self):
        for n in range(1, 40):
            self.assertIs(accepts(("covered", NIGHT.text, 0, 20, n), ()), n >= 5)
            self.assertIs(accepts(("open", NIGHT.text, 0, 20, n), ()), n < 5)
            self.assertIs(accepts(("covered", NIGHT.text, -3, 20, n), ()), n >= 13)
            self.assertIs(accepts(("free", NIGHT.text, 20, 30, n), ()), True)
            self.assertIs(accepts(("free", NIGHT.text, 0, 9, n), ()), n <= 3)

    def test_far_numbers(self):
        for n in (GREAT, GREAT + 1):
            self.assertIs(accepts(("covered", NIGHT.text, 0, 20, n), ()), True)
            self.assertIs(accepts(("open", NIGHT.text, 0, 21, n), ()), True)
            self.assertIs(accepts(("free", NIGHT.text, 20, GREAT, n), ()), True)
            self.assertIs(accepts(("covered", LEFT.text, 0, 2 * (GREAT - 1), n), ()), True)
            self.assertIs(accepts(("covered", LEFT.text, 0, 2 * n - 1, n), ()), False)
            self.assertIs(accepts(("covered", LEFT.text, -1, 2, n), ()), False)
            self.assertIs(accepts(("free", LEFT.text, 5 * (n - 1), 6 * n, n), ()), True)
            self.assertIs(accepts(("free", LEFT.text, 5 * (n - 1) - 1, 6 * n, n), ()), False)


class Unlike(unittest.TestCase):
    def test_beside_the_model(self):
        told = random.Random("unlike")
        found = []
        for rows in [*pseudo_scripts("unlike", 150, 7, 6), *pseudo_scripts("unlike far", 100, 9, 25)]:
            one, other = Script(*rows), Script(*nearly(rows, told))
            least = max(one.least, other.least)
            for n in (least, least + 1, least + 5, least + 17):
                rings = range(-1, n + max(one.change, other.change) + 3)
                unlike = []
                if one.change == other.change:
                    unlike = model.unlike_rings(one.cloth, moves_of(one), moves_of(other), n)
                for ring in rings:
                    claim = ("unlike", one.text, other.text, n, ring)
                    self.assertIs(accepts(claim, ()), ring in unlike, claim)
                    self.assertIs(accepts(("unlike", other.text, one.text, n, ring), ()), ring in unlike, claim)
                found.append(len(unlike) > 0)
        self.assertGreater(found.count(True), 50)
        self.assertGreater(found.count(False), 50)

    def test_the_example_at_all_rings(self):
        for n in range(1, 12):
            for ring in range(-1, n + 3):
                self.assertIs(accepts(("unlike", TWICE.text, LEFT.text, n, ring), ()), 2 <= ring <= n)

    def test_one_ring_that_comes_from_elsewhere(self):
        one, other = Script("cloth 2 5", "off left"), Script("cloth 2 5", "off right")
        for ring in range(1, 5):
            self.assertIs(accepts(("unlike", one.text, other.text, 5, ring), ()), True)
        # The bounds are the same here, but of rings that were not the same at first.
        for place in (-7, 0, 7):
            one = Script("cloth 2 5", "off left", f"left 1 to {place}")
            other = Script("cloth 2 5", f"left 1 to {place}", "off right")
            for ring in range(1, 5):
                self.assertIs(accepts(("unlike", one.text, other.text, 5, ring), ()), ring > 1)

    def test_fewer_rings_other_cloths_and_other_numbers_of_rings(self):
        one, other = Script("cloth 2 5", "off left", "left 3 to 0"), Script("cloth 2 5", "left 3 to 1", "off left")
        self.assertEqual((one.least, other.least), (4, 3))
        for n, wanted in ((2, False), (3, False), (4, True), (GREAT, True), (0, False), (-4, False)):
            self.assertIs(accepts(("unlike", one.text, other.text, n, 1), ()), wanted)
            self.assertIs(accepts(("unlike", other.text, one.text, n, 1), ()), wanted)
        for cloth in ("cloth 2 6", "cloth 1 5", "cloth 2 5 from 0"):
            self.assertIs(accepts(("unlike", LEFT.text, Script(cloth, "left 1 to 1").text, 4, 1), ()), False)
        for move in ("off left", "off right", "on left 7", "on right 7"):
            other = Script("cloth 2 5", "left 1 to 1", move)
            self.assertIs(accepts(("unlike", LEFT.text, other.text, 4, 1), ()), False)

    def test_far_numbers(self):
        for ring, wanted in ((GREAT, True), (GREAT + 1, False), (2, True), (1, False), (0, False), (-GREAT, False)):
            self.assertIs(accepts(("unlike", TWICE.text, LEFT.text, GREAT, ring), ()), wanted)

    def test_certificates(self):
        for paper in (None, [], 0, "", False, (0,), ((),), 2, (2, 2)):
            self.assertIs(accepts(("unlike", TWICE.text, LEFT.text, 2, 2), paper), False)


class Alike(unittest.TestCase):
    def test_small_certificates_beside_the_words_of_the_document(self):
        told = random.Random("alike")
        accepted = []
        for rows in [*pseudo_scripts("alike", 25, 5, 3), *pseudo_scripts("alike, longer", 15, 9, 3)]:
            one, other = Script(*rows), Script(*nearly(rows, told))
            for scripts in ((one, other), (one, one)):
                claim = ("alike", scripts[0].text, scripts[1].text)
                for left, right in itertools.product((10, 11, 12, 14, 19), repeat=2):
                    wanted = right_certificate(*scripts, left, right)
                    self.assertIs(accepts(claim, (left, right)), wanted, (claim, left, right))
                    accepted.append(wanted)
        self.assertGreater(accepted.count(True), 100)
        self.assertGreater(accepted.count(False), 100)

    def test_at_below_and_above_where_both_are_settled(self):
        for rows in [*pseudo_scripts("settling", 40, 7, 12), *pseudo_scripts("settling far", 25, 9, 99)]:
            script = Script(*rows)
            other = Script(*rows[:6], "carry 0") if len(rows) < 7 else script
            if script.change != other.change or not alike_with(script, other, max(script.least, other.least) + 9):
                continue
            scripts = (script, other) if len(rows) < 7 else (script, script)
            low = max(11, script.least, script.least + script.change)
            left = next(number for number in range(low, 3001) if model.settled(plain(*scripts), number, 3000))
            right = next(number for number in range(low, 3001) if model.settled(plain(*scripts), 3000, number))
            claim = ("alike", scripts[0].text, scripts[1].text)
            for spot, wanted in (
                ((left, right), True), ((left - 1, right), False), ((left, right - 1), False),
                ((left - 1, 3000), False),
                ((3000, right - 1), False), ((left + 1, right), True), ((left, right + 7), True), ((left, 3000), True),
                ((3000, right), True), ((3000, 3000), True), ((3001, 3000), False), ((3000, 3001), False),
                ((left, 3001), False), ((GREAT, GREAT), False), ((-left, right), False), ((left, 0), False),
            ):
                self.assertIs(accepts(claim, spot), wanted, (claim, spot))

    def test_at_least_the_numbers_of_rings(self):
        # Settled at 11 already; with 14 rings at first there are 5 left.
        script = Script("cloth 2 5", *["off left"] * 9, "left 5 to 0")
        self.assertEqual((script.least, script.change), (14, -9))
        # With 5 rings at first there are 14 at the end.
        grown = Script("cloth 1 9", "left 5 to 99", *["on right 0"] * 9)
        self.assertEqual((grown.least, grown.change), (5, 9))
        for one in (script, grown):
            claim = ("alike", one.text, one.text)
            self.assertTrue(model.settled(plain(one), 11, 11))
            for left, right in itertools.product((11, 12, 13, 14, 15, 16, 40), repeat=2):
                self.assertIs(accepts(claim, (left, right)), min(left, right) >= 14, (left, right))

    def test_the_greater_least_number_of_both(self):
        one = Script("cloth 2 5", *["off right"] * 6, "left 5 to 0", *["off right"] * 3)
        other = Script("cloth 2 5", *["off right"] * 9, "left 5 to 0")
        self.assertEqual((one.least, other.least, one.change, other.change), (11, 14, -9, -9))
        for left, right in itertools.product((11, 13, 14, 20), repeat=2):
            wanted = right_certificate(one, other, left, right)
            self.assertIs(wanted, min(left, right) >= 14)
            self.assertIs(accepts(("alike", one.text, other.text), (left, right)), wanted)
            self.assertIs(accepts(("alike", other.text, one.text), (left, right)), wanted)

    def test_unlike_only_with_many_rings(self):
        for place in (20, 40, 99):
            one = Script("cloth 1 2", "left 1 to 0", f"right 1 to {place}")
            other = Script("cloth 1 2", "left 1 to -1", f"right 1 to {place}")
            first = place // 2 + 2
            self.assertTrue(alike_with(one, other, first - 1))
            self.assertFalse(alike_with(one, other, first))
            for spot in (
                (11, 11), (11, 50), (place + 1, 3000), (3000, 3000), (2 * place, 2 * place), (first - 1, first - 1),
            ):
                self.assertIs(accepts(("alike", one.text, other.text), spot), False)
            for n in (1, first - 1, first, first + 1):
                unlike = model.unlike_rings(one.cloth, moves_of(one), moves_of(other), n)
                for ring in range(1, n + 1):
                    self.assertIs(accepts(("unlike", one.text, other.text, n, ring), ()), ring in unlike)

    def test_scripts_that_come_to_the_same(self):
        pairs = (
            (("left 1 to 0", "right 1 to 20"), ("left 1 to 0", "carry 3", "carry -3", "right 1 to 20")),
            (("carry 5", "left 2 to 0"), ("left 2 to -5", "carry 5")),
            (("off left", "off right"), ("off right", "off left")),
            (("left 1 to 0",), ("left 1 to 0", "left 1 to 0")),
        )
        for ones, others in pairs:
            for cloth in ("cloth 2 5", "cloth 1 2"):
                one, other = Script(cloth, *ones), Script(cloth, *others)
                claim = ("alike", one.text, other.text)
                self.assertIs(accepts(claim, (60, 60)), True, claim)
                self.assertIs(accepts(claim, (10, 60)), False, claim)
                self.assertIs(accepts(("alike", one.text, Script(cloth, *others, "off left").text), (60, 60)), False)
                for change in ("cloth 2 6", "cloth 1 5", f"{cloth} from 0", f"{cloth} from -99"):
                    self.assertIs(accepts(("alike", one.text, Script(change, *ones).text), (60, 60)), False)

    def test_certificates(self):
        claim = ("alike", NIGHT.text, NIGHT.text)
        self.assertIs(accepts(claim, (11, 11)), True)
        for paper in (
            (), (11,), (11, 11, 11), [11, 11], 11, "11", None, (True, 11), (11, True), ("11", 11), (11, None),
            ((11, 11),), (11, (11,)), {11: 11}, (-11, -11), (11, -11), (0, 0), (GREAT, 11), (11, GREAT), (11, b"11"), (10, 11), (11, 10),
        ):
            self.assertIs(accepts(claim, paper), False, paper)


class Within(unittest.TestCase):
    """Which pairs of numbers the checker looks at, also where no certificate could be."""

    def test_beside_the_model(self):
        told = random.Random("within")
        answers = []
        for rows in pseudo_scripts("within", 120, 6, 12):
            one, other = Script(*rows), Script(*nearly(rows, told))
            if one.change != other.change:
                continue
            least = max(one.least, other.least)
            unlike = []
            for n in range(least, least + 22):
                rings = n + one.change
                for ring in model.unlike_rings(one.cloth, moves_of(one), moves_of(other), n):
                    unlike.append((ring, rings + 1 - ring))
            lanes = [lane_of(one, "left"), lane_of(other, "left")]
            for spot in itertools.product(range(1, 11), repeat=2):
                wanted = not any(left <= spot[0] and right <= spot[1] for left, right in unlike)
                self.assertIs(is_alike_within(lanes, least + one.change, spot), wanted, (rows, other.rows, spot))
                answers.append((wanted, len(unlike) > 0))
        self.assertGreater(answers.count((True, True)), 100)
        self.assertGreater(answers.count((False, True)), 100)


class Kept(unittest.TestCase):
    def check(self, script, a, b, n, most):
        claim = ("kept", script.text, a, b, n)
        told = accepts(claim, most)
        wanted = n <= most <= n + 3000
        wanted = wanted and model.settled(plain(script), most + script.change, most + script.change)
        if wanted:
            # In these tests the rings are settled long before 60 of them.
            numbers = sorted({*range(n, min(most, n + 60) + 1), most - 1, most}) if most > n else [n]
            args = (script.cloth, moves_of(script), a, b)
            wanted = all(model.surely_covered(*args, number) for number in numbers if number >= n)
        self.assertIs(told, wanted, (claim, most))
        return told

    def test_beside_the_words_of_the_document(self):
        told = random.Random("kept")
        accepted = []
        for rows in pseudo_scripts("kept", 120, 6, 6):
            script = Script(*rows)
            ends = model.bounds(script.cloth, moves_of(script), script.least + 4)
            for _ in range(6):
                a = (ends[0][2] or 0) + told.choice((-1, 0, 0, 0, 1))
                b = max(a + 2, (ends[-1][1] or 0) + told.choice((-1, 0, 0, 0, 1)))
                n = script.least + told.randint(0, 9)
                for most in (n - 1, n, n + 1, n + 5, n + 11, n + 20, n + 60):
                    accepted.append(self.check(script, a, b, n, most))
        self.assertGreater(accepted.count(True), 200)
        self.assertGreater(accepted.count(False), 200)

    def test_from_n_to_n_and_3000(self):
        for n in (5, 9, 11, 400, GREAT):
            claim = ("kept", NIGHT.text, 0, 20, n)
            for most in (n - 1, n, n + 1, 10, 11, 12, n + 2999, n + 3000, n + 3001, n + GREAT, -n, 0):
                wanted = max(n, 11) <= most <= n + 3000
                self.assertIs(accepts(claim, most), wanted, (n, most))

    def test_windows_that_are_not_covered_from_n_on(self):
        for n in range(1, 5):
            for most in (n, 5, 11, 12, 3000):
                self.assertIs(accepts(("kept", NIGHT.text, 0, 20, n), most), False)
        for n, wanted in ((12, False), (13, True), (14, True)):
            self.assertIs(accepts(("kept", NIGHT.text, -3, 20, n), 20), wanted)
        self.assertIs(accepts(("kept", NIGHT.text, -3, 21, 13), 20), False)

    def test_windows_that_are_covered_up_to_a_number_before_the_rings_are_settled(self):
        # With 11 rings and more the places are sure; the claim is true from 5 rings on, but 5 to 10 prove nothing.
        for most in range(5, 11):
            self.assertIs(accepts(("kept", NIGHT.text, 0, 20, 5), most), False)
        self.assertIs(accepts(("kept", NIGHT.text, 0, 20, 5), 11), True)

    def test_where_fewer_or_more_rings_are_at_the_end(self):
        fewer = Script("cloth 2 5", "off left", "off right", "off left", "left 1 to 0", "right 1 to 20")
        more = Script("cloth 2 5", "left 1 to 0", "on left 0", "right 1 to 20")
        for script in (fewer, more):
            least = next(n for n in range(1, 99) if model.settled(plain(script), n + script.change, n + script.change))
            for most in range(script.least, 60):
                told = accepts(("kept", script.text, 0, 20, 9), most)
                self.assertIs(told, most >= max(9, least), (script.rows, most))

    def test_certificates(self):
        claim = ("kept", NIGHT.text, 0, 20, 5)
        self.assertIs(accepts(claim, 11), True)
        for paper in ((), (11,), [11], "11", None, True, False, (11, 11), {11: 11}, b"11", "", NIGHT):
            self.assertIs(accepts(claim, paper), False)
        for word in ("covered", "free", "open"):
            self.assertIs(accepts((word, *claim[1:]), 11), False)


if __name__ == "__main__":
    unittest.main()
