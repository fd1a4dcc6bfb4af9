"""Checks of arguments that several functions have."""

from drawnrings.errors import InvalidNumber, InvalidPlace
from drawnrings.kinds import is_integer


def is_window_end(a, value):
    """Whether this is the right end of a window that begins at the integer a."""
    return is_integer(value) and value >= a + 2


def check_window(a, b):
    """Raise InvalidPlace for everything but a window."""
    if not is_integer(a):
        raise InvalidPlace(a)
    if not is_window_end(a, b):
        raise InvalidPlace(b)


def check_number(script, n):
    """Raise InvalidNumber for everything but a number of rings with which all moves can be done."""
    if not is_integer(n) or n < script.least:
        raise InvalidNumber(n)


def check_ring(script, n, ring):
    """Raise InvalidNumber for everything but the number of a ring at the end, n rings being there at first."""
    if not is_integer(ring) or not 1 <= ring <= n + script.change:
        raise InvalidNumber(ring)
