"""drawnrings.stretches: stretches beside the integers that are in them."""

import itertools
import unittest

from drawnrings.stretches import further, in_both, joined, least_inside, least_outside, shared, without
from tests.helpers import Case, numbers_in

NUMBERS = range(-2, 9)

# All stretches that begin and end between 0 and 5, and those that go on without end.
STRETCHES = [(first, last) for first in range(6) for last in (*range(first, 6), None)]

GAPS = [*STRETCHES, *[(None, last) for last in (*range(-1, 6), None)]]


def numbers(stretches):
    """The integers of NUMBERS that are in one of the stretches."""
    return numbers_in(stretches, NUMBERS[0], NUMBERS[-1])


class Stretches(Case):
    def test_shared(self):
        for one, other in itertools.product(GAPS, repeat=2):
            told = shared(one, other)
            with self.subTest(one=one, other=other):
                wanted = [number for number in numbers([one]) if number in numbers([other])]
                self.assertEqual(numbers([] if told is None else [told]), wanted)

    def test_joined(self):
        for many in range(4):
            for rows in itertools.product(STRETCHES[::2], repeat=many):
                told = joined(list(rows))
                self.assertEqual(numbers(told), numbers(rows))
                self.check_stretches(tuple(told))

    def test_in_both(self):
        lists = [joined(list(rows)) for rows in itertools.combinations(STRETCHES[::3], 2)]
        for ones, others in itertools.product(lists, repeat=2):
            told = in_both(ones, others)
            self.assertEqual(numbers(told), [number for number in numbers(ones) if number in numbers(others)])
            self.check_stretches(tuple(told))

    def test_without(self):
        for stretch, gap in itertools.product(STRETCHES, GAPS):
            told = without(stretch, gap)
            with self.subTest(stretch=stretch, gap=gap):
                self.assertEqual(numbers(told), [number for number in numbers([stretch]) if number not in numbers([gap])])
                self.check_stretches(tuple(told))

    def test_further(self):
        self.assertEqual(further([], 3), ())
        self.assertEqual(further([(0, 2), (4, None)], 3), ((3, 5), (7, None)))
        self.assertEqual(further([(0, 2)], -3), ((-3, -1),))

    def test_least_inside_and_outside(self):
        for rows in itertools.product(STRETCHES, repeat=2):
            told = joined(list(rows))
            for start in range(-1, 8):
                with self.subTest(told=told, start=start):
                    inside = [number for number in range(start, 12) if numbers_in(told, number, number)]
                    outside = [number for number in range(start, 12) if not numbers_in(told, number, number)]
                    self.assertEqual(least_inside(told, start), min(inside, default=None))
                    self.assertEqual(least_outside(told, start), min(outside, default=None))


if __name__ == "__main__":
    unittest.main()
