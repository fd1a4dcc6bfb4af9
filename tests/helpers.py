"""What several tests need: values of all kinds, and a check that an error is just as the document tells."""

import random
import unittest

from drawnrings import errors
from drawnrings.rails import Rail
from drawnrings.scripts import Script


class Agreeable:
    """Calls itself equal to everything."""

    def __eq__(self, other):
        return True

    def __ne__(self, other):
        return False

    __hash__ = None


class Stranger:
    """An object that has an order, a length and elements, but is nothing that is asked for."""

    def __len__(self):
        return 2

    def __getitem__(self, at):
        return (2, 5)[at]

    def __lt__(self, other):
        return True


def values_of_all_kinds():
    """Values of all kinds, new ones at each call, so that a test may see whether one was changed."""
    return [
        None, True, False, 0, 1, -1, 2, 99, 10 ** 39, -10 ** 39,
        "", " ", "\n", "x", "0", "cloth", "left 1 to 0", "some to 0", "cloth 2 5", "cloth 2 5\nleft 1 to 0",
        b"", b"cloth 2 5", b"left 1 to 0", b"\x00",
        [], [2, 5], [0, 3], ["cloth 2 5"], ["left 1 to 0"], [[]], [None],
        (), (0,), (2, 5), (0, 3), (2, 5, 0), ("cloth 2 5",), ("left 1 to 0",), (None,), (True, False),
        ((2, 5),), ((((((((1,),),),),),),),), ((), ()), (2, (5,)),
        {}, {"cloth": 2}, {2: 5}, set(), {2, 5}, {"left 1 to 0"}, frozenset(), frozenset((0, 3)), range(2),
        object(), Agreeable(), Stranger(), Script, Rail, len, ValueError("x"), errors.InvalidCloth(3),
        Script("cloth 2 5"), Script("cloth 2 5", "left 1 to 0"), Rail((2, 5), (0, 3)),
    ]


def all_but(fits):
    """The values of all kinds for which fits(value) does not hold."""
    return [value for value in values_of_all_kinds() if not fits(value)]


def is_plain_integer(value):
    return isinstance(value, int) and not isinstance(value, bool)


class Case(unittest.TestCase):
    """A test case that knows how this package raises errors."""

    def check_raises(self, error, told, call, *args, **more):
        """The call raises just this error; its attributes are the very objects in the dict `told`."""
        try:
            got = call(*args, **more)
        except Exception as raised:
            self.assertIs(type(raised), error, f"{type(raised).__name__} instead of {error.__name__}")
            for name, value in told.items():
                shown = getattr(raised, name)
                self.assertIs(type(shown), type(value), name)
                if shown is not value:
                    self.assertEqual(shown, value, name)
        else:
            self.fail(f"{error.__name__} was not raised: {type(got).__name__} came back")

    def check_given(self, error, value, call, *args, **more):
        """The call raises this error, and its `given` is the very value that was passed."""
        with self.assertRaises(error) as caught:
            call(*args, **more)
        self.assertIs(type(caught.exception), error)
        self.assertIs(caught.exception.given, value)

    def check_stretches(self, stretches):
        """Stretches as the document tells them: a tuple of pairs that ascend and don't touch."""
        self.assertIs(type(stretches), tuple)
        for first, last in stretches:
            self.assertIs(type(first), int)
            self.assertTrue(last is None or type(last) is int and first <= last, stretches)
        for one, other in zip(stretches, stretches[1:]):
            self.assertLess(one[1] + 1, other[0])


def pseudo_scripts(seed, many, most_moves, most_place, with_some=False):
    """Rows of scripts of all kinds of moves, the same ones for the same arguments."""
    told = random.Random(seed)

    def move():
        place = told.randint(-most_place, most_place)
        ring = told.choice((1, 1, 1, 2, 3, 5))
        kinds = [f"left {ring} to {place}", f"right {ring} to {place}"] * 4 + [f"carry {place}"] * 2
        kinds += ["off left", "off right", f"on left {place}", f"on right {place}"]
        kinds += [f"some to {place}"] * 3 * with_some
        return told.choice(kinds)

    rows = []
    for _ in range(many):
        near = told.randint(1, 4)
        cloth = f"cloth {near} {near + told.randint(1, 4)}"
        if told.random() < 0.5:
            cloth += f" from {told.randint(-most_place, most_place)}"
        rows.append((cloth, *[move() for _ in range(told.randint(0, most_moves))]))
    return rows


def numbers_in(stretches, low, high):
    """The integers from low to high that are in one of the stretches."""
    return [
        number for number in range(low, high + 1)
        if any((first is None or first <= number) and (last is None or number <= last) for first, last in stretches)
    ]
