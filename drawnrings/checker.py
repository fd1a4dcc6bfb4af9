"""A small checker of claims about scripts: it believes no certificate, but asks what is left to ask with it."""

from drawnrings.asking import covers
from drawnrings.bounds import known_bounds
from drawnrings.checks import is_window_end
from drawnrings.errors import InvalidRows
from drawnrings.kinds import is_integer
from drawnrings.lanes import lane_of
from drawnrings.limits import MOST_LOOKED
from drawnrings.scripts import Script
from drawnrings.settling import is_settled
from drawnrings.stretches import least_outside
from drawnrings.sweeps import unlike_rows


def known_script(text):
    """The known script with this text, None if there is none."""
    if type(text) is not str:
        return None
    rows = text.split("\n")
    try:
        script = Script(*rows)
    except InvalidRows:
        return None
    return script if script.known else None


def lanes_of(scripts):
    """The lanes of known scripts."""
    return [lane_of(script, "left") for script in scripts]


def is_covered(script, a, b, n):
    """Whether the window is surely covered with n rings."""
    greatest = known_bounds(script, n, 1)[2]
    least = known_bounds(script, n, n + script.change)[1]
    return greatest is not None and greatest <= a and least >= b


def is_free(script, a, b, n):
    """Whether the window is surely free with n rings."""
    # A standing goes over into each other one in steps that no ring takes further than 1: the window is too wide for
    # the rings to be on one side of it for some standings and on the other side for all others.
    greatest = known_bounds(script, n, n + script.change)[2]
    least = known_bounds(script, n, 1)[1]
    return greatest is not None and greatest <= a or least is not None and least >= b


def is_like_built(one, other):
    """Whether both scripts have the same cloth, and lead to equally many rings."""
    return one.cloth == other.cloth and one.change == other.change


def is_alike_at(one, other, n, ring):
    """Whether both scripts lead the ring with this number from the left at the end to the same place."""
    told = known_bounds(one, n, ring)
    if told != known_bounds(other, n, ring):
        return False
    # A ring whose place hangs on the standing must have been the same one at first, too.
    starts = [lane.left for lane in lanes_of((one, other))]
    return starts[0] == starts[1] or told[1] is not None and told[1] == told[2]


def is_alike_within(lanes, rings, spot):
    """Whether two lanes lead all rings to the same places whose two numbers are not greater than those of the spot.

    Only numbers of rings from `rings` on are looked at.
    """
    for left, rows in unlike_rows(lanes, rings):
        if left > spot[0]:
            return True
        if len(rows) > 0 and rows[0][0] <= spot[1]:
            return False
    return True


def is_spot(value):
    """Whether this is a pair of integers that are not too great to be looked at."""
    if type(value) is not tuple or len(value) != 2:
        return False
    return all([is_integer(number) and number <= MOST_LOOKED for number in value])


def proves_alike(one, other, spot):
    """Whether the certificate proves that both scripts come to the same."""
    if not is_spot(spot) or not is_like_built(one, other):
        return False
    least = max(one.least, other.least)
    rings = least + one.change
    lanes = lanes_of((one, other))
    if min(spot) < max(least, rings) or not is_settled(lanes, spot):
        return False
    return is_alike_within(lanes, rings, (spot[0] + 1, spot[1] + 1))


def is_unlike(one, other, n, ring):
    """Whether both scripts lead a ring with this number to unlike places for some standing of n rings."""
    if not is_enough(one, n) or not is_enough(other, n) or not is_like_built(one, other):
        return False
    if not is_integer(ring) or not 1 <= ring <= n + one.change:
        return False
    return not is_alike_at(one, other, n, ring)


def proves_kept(script, a, b, n, most):
    """Whether the certificate proves that the window is surely covered with n rings and with each greater number."""
    if not is_integer(most) or not n <= most <= n + MOST_LOOKED:
        return False
    rings = most + script.change
    if not is_settled(lanes_of((script,)), (rings, rings)):
        return False
    wrong = least_outside(covers(script, a, b), n)
    return wrong is None or wrong > most


def is_enough(script, n):
    """Whether this is a number of rings with which all moves can be done."""
    return is_integer(n) and n >= script.least


def is_empty_tuple(value):
    """Whether this is `()`."""
    return type(value) is tuple and len(value) == 0


def accepts(claim, certificate):
    """Whether this is a claim for the checker, and a certificate for it."""
    if type(claim) is not tuple or len(claim) not in (3, 5) or type(claim[0]) is not str:
        return False
    if claim[0] in ("alike", "unlike"):
        return accepts_pair(claim, certificate)
    return len(claim) == 5 and accepts_window(claim, certificate)


def accepts_pair(claim, certificate):
    """What accepts returns for a row that may be a claim about two scripts."""
    one = known_script(claim[1])
    other = known_script(claim[2])
    if one is None or other is None:
        return False
    if len(claim) == 3:
        return claim[0] == "alike" and proves_alike(one, other, certificate)
    return claim[0] == "unlike" and is_empty_tuple(certificate) and is_unlike(one, other, claim[3], claim[4])


def accepts_window(claim, certificate):
    """What accepts returns for a row that may be a claim about a script and a window."""
    word, text, a, b, n = claim
    script = known_script(text)
    if script is None or not is_integer(a) or not is_window_end(a, b) or not is_enough(script, n):
        return False
    if word == "kept":
        return proves_kept(script, a, b, n, certificate)
    if not is_empty_tuple(certificate):
        return False
    if word == "covered":
        return is_covered(script, a, b, n)
    if word == "free":
        return is_free(script, a, b, n)
    return word == "open" and not is_covered(script, a, b, n)
