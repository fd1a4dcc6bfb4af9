"""Where each ring is at the end, and which rings are surely where."""

from drawnrings.checks import check_number, check_ring
from drawnrings.hanging import clamped
from drawnrings.lanes import outer_lanes
from drawnrings.looks import bounds_at, look, place_at
from drawnrings.scripts import check_known, check_script
from drawnrings.stretches import further, joined
from drawnrings.terms import sure_terms
from drawnrings.walks import pieces, where


def spot_of(script, n, ring):
    """The spot of the ring with this number from the left at the end."""
    return (ring, n + script.change + 1 - ring)


def bounds(script, n, ring):
    """The bounds (S, A, B) of the ring with this number from the left at the end."""
    check_script(script)
    check_number(script, n)
    check_ring(script, n, ring)
    check_known(script)
    return known_bounds(script, n, ring)


def known_bounds(script, n, ring):
    """What bounds returns, for arguments that are valid."""
    spot = spot_of(script, n, ring)
    lanes = outer_lanes(script)
    _, outcomes = look(lanes, spot)
    return bounds_at(lanes[0], outcomes[0], spot)


def reach(script, n, ring):
    """The stretch from the least to the greatest place that the ring can be at."""
    check_script(script)
    check_number(script, n)
    check_ring(script, n, ring)
    return valid_reach(script, n, ring)


def valid_reach(script, n, ring):
    """What reach returns, for arguments that are valid."""
    spot = spot_of(script, n, ring)
    _, outcomes = look(outer_lanes(script), spot)
    return (place_at(outcomes[0][0], spot), place_at(outcomes[-1][1], spot))


def spread(script, n):
    """The stretch of the distances of the first and the last ring at the end."""
    check_script(script)
    check_number(script, n)
    check_known(script)
    rings = n + script.change
    near, far = script.cloth[:2]
    least, greatest = (rings - 1) * near, (rings - 1) * far
    _, first_low, first_high = known_bounds(script, n, 1)
    _, low, high = known_bounds(script, n, rings)
    if first_high is None:
        # Nothing is drawn, so that the rings stay as far apart as they were.
        return (least, greatest)
    # Let all gaps be least at first, and all rings come from further and further on the right. Until the first one is
    # at its greatest place it follows at least as far as the last one does, from then on it stays: just there the
    # distance is least. Likewise, with the greatest gaps, it is greatest just where the first one leaves its least
    # place.
    least = clamped(first_high + least, low, high) - first_high
    greatest = clamped(first_low + greatest, low, high) - first_low
    return (least, greatest)


def dark(script, n):
    """The widest window that is surely covered, None if there is none."""
    check_script(script)
    check_number(script, n)
    a = valid_reach(script, n, 1)[1]
    b = valid_reach(script, n, n + script.change)[0]
    if a is None or b is None or b < a + 2:
        return None
    return (a, b)


def sure(script, n):
    """The stretches of all rings, by their numbers from the left at the end, that are surely at one place."""
    check_script(script)
    check_number(script, n)
    start = spot_of(script, n, 1)
    step = (1, -1)
    found = pieces(outer_lanes(script), start, step, n + script.change - 1)
    return further(joined(where(found, start, step, sure_terms)), 1)
