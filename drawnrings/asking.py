"""What is so for all numbers of rings: windows, scripts that come to the same, needless rows."""

from drawnrings.checks import check_number, check_window
from drawnrings.lanes import lane_of, outer_lanes
from drawnrings.looks import place_at
from drawnrings.scripts import Script, check_known, check_script
from drawnrings.stretches import further, in_both, joined
from drawnrings.sweeps import first_unlike, loose_numbers
from drawnrings.terms import at_least, at_most
from drawnrings.walks import pieces, where

# The first ring stays the first one from the left while the number of rings grows, the last one from the right.
FIRST_STEP = (0, 1)
LAST_STEP = (1, 0)


def first_where(script, terms):
    """The stretches of the t for which the terms hold for the first ring of least + t rings."""
    spot = (1, script.least + script.change)
    return where(pieces(outer_lanes(script), spot, FIRST_STEP, None), spot, FIRST_STEP, terms)


def last_where(script, terms):
    """The stretches of the t for which the terms hold for the last ring of least + t rings."""
    spot = (script.least + script.change, 1)
    return where(pieces(outer_lanes(script), spot, LAST_STEP, None), spot, LAST_STEP, terms)


def covers(script, a, b):
    """The stretches of all n for which the window is surely covered."""
    check_script(script)
    check_window(a, b)
    firsts = first_where(script, lambda outcomes: at_most(outcomes[-1][1], a))
    lasts = last_where(script, lambda outcomes: at_least(outcomes[0][0], b))
    return further(in_both(firsts, lasts), script.least)


def frees(script, a, b):
    """The stretches of all n for which the window is surely free."""
    check_script(script)
    check_window(a, b)
    check_known(script)
    # A standing goes over into each other one in steps that no ring takes further than 1: the window is too wide
    # for the rings to be on one side of it for some standings and on the other side for all others.
    lefts = last_where(script, lambda outcomes: at_most(outcomes[-1][1], a))
    rights = first_where(script, lambda outcomes: at_least(outcomes[0][0], b))
    return further(joined(lefts + rights), script.least)


def parting(one, other):
    """None if both scripts come to the same, otherwise what is unlike first."""
    check_script(one)
    check_script(other)
    check_known(one)
    check_known(other)
    if one.cloth != other.cloth:
        return "cloth"
    if one.change != other.change:
        return "rings"
    least = max(one.least, other.least)
    lanes = [lane_of(one, "left"), lane_of(other, "left")]
    unlike = first_unlike(lanes, least + one.change)
    if unlike is None:
        return None
    return (unlike[0] - one.change, unlike[1])


def script_without(script, index):
    """The script without the row with this index, which is that of a move."""
    rows = [row for at, row in enumerate(script.rows) if at != index]
    return Script(*rows)


def is_needless(script, index):
    """Whether the script without this move comes to the same."""
    return parting(script, script_without(script, index)) is None


def needless(script):
    """The ascending indexes of all rows that are needless, each one alone."""
    check_script(script)
    check_known(script)
    # Without the row of the cloth there is no script.
    return tuple([index for index in range(1, len(script.rows)) if is_needless(script, index)])


def pruned(script):
    """The script without needless rows, the least index left out first, again and again."""
    check_script(script)
    check_known(script)
    index = 1
    while index < len(script.rows):
        if is_needless(script, index):
            script = script_without(script, index)
            index = 1
        else:
            index = index + 1
    return script


def dark_from(script, n):
    """The widest window that is surely covered with n rings and with each greater number, None if there is none."""
    check_script(script)
    check_number(script, n)
    rings = n + script.change
    lanes = outer_lanes(script)
    # No form grows with the number of rings for the first ring, nor shrinks for the last one, so in each piece it is
    # the least number of rings that tells.
    firsts = [
        place_at(outcomes[-1][1], (1, rings + first))
        for first, _, outcomes in pieces(lanes, (1, rings), FIRST_STEP, None)
    ]
    lasts = [
        place_at(outcomes[0][0], (rings + first, 1))
        for first, _, outcomes in pieces(lanes, (rings, 1), LAST_STEP, None)
    ]
    if None in firsts or None in lasts or min(lasts) < max(firsts) + 2:
        return None
    return (max(firsts), min(lasts))


def loose_starts(script):
    """The stretches of all n with which some ring's place is not sure."""
    rings = script.least + script.change
    return further(loose_numbers(outer_lanes(script), rings), -script.change)


def always_sure(script):
    """The least n such that with it and with each greater number all rings are surely at one place, None if none."""
    check_script(script)
    loose = loose_starts(script)
    if len(loose) == 0:
        return script.least
    if loose[-1][1] is None:
        return None
    return loose[-1][1] + 1
