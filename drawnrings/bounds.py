"""Where each ring is at the end, and which rings are surely where."""

from drawnrings.checks import check_number, check_ring
from drawnrings.hanging import clamped
from drawnrings.lanes import outer_lanes
from drawnrings.looks import bounds_at, look, place_at
from drawnrings.scripts import check_known, check_script
from drawnrings.stretches import further, joined
from drawnrings.terms import sure_terms
from drawnrings.walks import pieces, where


def spot_of(script, n, ring):
    """The spot of the ring with this number from the left at the end."""
    return (ring, n + script.change + 1 - ring)


def bounds(script, n, ring):
    """The bounds (S, A, B) of the ring with this number from the left at the end."""
    check_script(script)
    check_number(script, n)
    check_ring(script, n, ring)
    check_known(script)
    return known_bounds(script, n, ring)


def known_bounds(script, n, ring):
    """What bounds returns, for arguments that are valid."""
    spot = spot_of(script, n, ring)
    _, outcomes = look(outer_lanes(script), spot)
    return bounds_at(outcomes[0], spot)


def reach(script, n, ring):
    """The stretch from the least to the greatest place that the ring can be at."""
    check_script(script)
    check_number(script, n)
    check_ring(script, n, ring)
    return valid_reach(script, n, ring)


def valid_reach(script, n, ring):
    """What reach returns, for arguments that are valid."""
    spot = spot_of(script, n, ring)
    _, outcomes = look(outer_lanes(script), spot)
    return (place_at(outcomes[0][1], spot), place_at(outcomes[-1][2], spot))


def spread(script, n):
    """The stretch of the distances of the first and the last ring at the end."""
    check_script(script)
    check_number(script, n)
    check_known(script)
    rings = n + script.change
    first = known_bounds(script, n, 1)
    last = known_bounds(script, n, rings)
    if is_sure(first) or is_sure(last):
        # One of the two stays where it is, so the other one alone tells the distance.
        return (last[1] - first[2], last[2] - first[1])
    near, far = script.cloth[:2]
    return (min(distances(first, last, (rings - 1) * near)), max(distances(first, last, (rings - 1) * far)))


def is_sure(ring_bounds):
    """Whether a ring with these bounds is surely at one place."""
    return ring_bounds[1] is not None and ring_bounds[1] == ring_bounds[2]


def distances(first, last, apart):
    """Some of the distances of two rings that were so far apart at first, the least and the greatest among them.

    While both rings come from places further and further to the right, their distance goes steadily one way, until
    one of them leaves its least place, or comes to its greatest one. So it is enough to look there.
    """
    turns = [place for place in first[1:] if place is not None]
    turns = turns + [place - apart for place in last[1:] if place is not None]
    if len(turns) == 0:
        return [apart]
    return [bounded(turn + apart, last) - bounded(turn, first) for turn in turns]


def bounded(place, ring_bounds):
    """Where a ring with these bounds is if it would be at this place without them."""
    _, low, high = ring_bounds
    return clamped(place, place if low is None else low, max(place, low) if high is None else high)


def dark(script, n):
    """The widest window that is surely covered, None if there is none."""
    check_script(script)
    check_number(script, n)
    a = valid_reach(script, n, 1)[1]
    b = valid_reach(script, n, n + script.change)[0]
    if a is None or b is None or b < a + 2:
        return None
    return (a, b)


def sure(script, n):
    """The stretches of all rings, by their numbers from the left at the end, that are surely at one place."""
    check_script(script)
    check_number(script, n)
    start = spot_of(script, n, 1)
    step = (1, -1)
    found = pieces(outer_lanes(script), start, step, n + script.change - 1)
    return further(joined(where(found, start, step, sure_terms)), 1)
