"""How the rings can have stood at first, from what was seen at the end."""

from drawnrings.bounds import known_bounds
from drawnrings.checks import check_number
from drawnrings.errors import InvalidSeen, TooMany
from drawnrings.kinds import is_integer
from drawnrings.lanes import outer_lanes
from drawnrings.scripts import check_known, check_script
from drawnrings.stretches import shared

MOST_STARTS = 200


def check_seen(seen, rings):
    """Raise InvalidSeen for everything but pairs (ring, place) of so many rings, the rings ascending."""
    if type(seen) is not tuple:
        raise InvalidSeen(None)
    before = 0
    for index, pair in enumerate(seen):
        if not is_sight(pair) or not before < pair[0] <= rings:
            raise InvalidSeen(index)
        before = pair[0]


def is_sight(value):
    """Whether this is a pair of integers."""
    return type(value) is tuple and len(value) == 2 and is_integer(value[0]) and is_integer(value[1])


def starts_seen(script, n, seen):
    """The stretches of the places that the rings can have had at first, None if none of them can have been seen."""
    check_script(script)
    check_number(script, n)
    check_seen(seen, n + script.change)
    check_known(script)
    if n > MOST_STARTS:
        raise TooMany(n)
    starts = [(None, None)] * n
    if len(script.cloth) == 3:
        # What the end leaves the other rings, the cloth tells by what it leaves the first one.
        starts[0] = (script.cloth[2], None)
    left = outer_lanes(script)[0].left
    for ring, place in seen:
        stretch = start_of(known_bounds(script, n, ring), place)
        if stretch is None:
            return None
        # A ring that is surely at one place tells nothing; it may not even have been there at first.
        if stretch != (None, None):
            at = ring + left - 1
            starts[at] = shared(starts[at], stretch)
    return settled_starts(starts, script.cloth)


def start_of(ring_bounds, place):
    """The stretch of the places from which a ring with these bounds comes to this place, None if there are none."""
    carried, low, high = ring_bounds
    if low is not None and place < low or high is not None and place > high:
        return None
    return (None if place == low else place - carried, None if place == high else place - carried)


def beside(stretch, low, high):
    """The stretch of what is at least low and at most high greater than some integer of this one."""
    return (None if stretch[0] is None else stretch[0] + low, None if stretch[1] is None else stretch[1] + high)


def settled_starts(starts, cloth):
    """The stretches with just the places that the cloth lets the rings have, None if it lets them have none."""
    near, far = cloth[:2]
    told = starts[:1]
    for start in starts[1:]:
        stretch = shared(start, beside(told[-1], near, far))
        if stretch is None:
            return None
        told.append(stretch)
    # Each place that is left has one on its left that fits, so that on the way back no stretch becomes empty.
    for index in reversed(range(len(told) - 1)):
        told[index] = shared(told[index], beside(told[index + 1], -far, -near))
    return tuple(told)
