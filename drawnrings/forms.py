"""Forms: places, and differences of places, that hang on the numbers that a ring has at the end.

A spot is a pair (I, M): the ring that is at the end the I-th from the left and the M-th from the right. A form is
a triple (i, m, c) of integers: at the spot (I, M) it is worth i * I + m * M + c.
"""

from math import gcd

from drawnrings.stretches import shared


def worth(form, spot):
    """What the form is worth at the spot."""
    return form[0] * spot[0] + form[1] * spot[1] + form[2]


def lead(form, other):
    """The form that tells by how much the first one is greater than the other."""
    return (form[0] - other[0], form[1] - other[1], form[2] - other[2])


def raised(form, way):
    """The form that is worth so much more everywhere; None stays None."""
    if form is None:
        return None
    return (form[0], form[1], form[2] + way)


def opposite(form):
    """The form that is worth the negative."""
    return (-form[0], -form[1], -form[2])


def not_below(form, spot, step):
    """The stretch of all t for which the form is not below 0 at spot + t * step, None if there is none."""
    now = worth(form, spot)
    more = form[0] * step[0] + form[1] * step[1]
    if more > 0:
        return (-(now // more), None)
    if more < 0:
        return (None, now // -more)
    if now < 0:
        return None
    return (None, None)


def held(forms, spot, step):
    """The stretch of all t for which no form is below 0 at spot + t * step, None if there is none."""
    stretch = (None, None)
    for form in forms:
        part = not_below(form, spot, step)
        if part is None:
            return None
        stretch = shared(stretch, part)
        if stretch is None:
            return None
    return stretch


def tightest(forms):
    """Forms, fewer of them, that are not below 0 at just the same spots. Each one passed is so somewhere."""
    rests = {}
    for left, right, rest in forms:
        common = gcd(left, right)
        if common > 0:
            way = (left // common, right // common)
            # Rounding down loses no spot, as what stands before it is an integer at each.
            bound = rest // common
            rests[way] = min(bound, rests.get(way, bound))
    return [(left, right, rest) for (left, right), rest in rests.items()]
