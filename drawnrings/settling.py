"""Settling: from which rings on the same forms are the bounds of all further ones.

The left forms are worth more for greater I, the right forms less for greater M; the order of two of them is told by the
form of their difference, which is not below 0 just where the greater one is in front.
"""

from drawnrings.forms import held, lead, opposite, raised, worth

LEAST_SETTLED = 11

FIRST_SPOT = (1, 1)


def is_drawing(step, side):
    """Whether this is a step that draws a ring that is counted from this side."""
    return step.kind in ("draw", "on") and step.side == side


def left_forms(lane):
    """The left forms of a lane."""
    near, far = lane.near, lane.far
    end = None if lane.end is None else lane.end + lane.carried
    told = [] if end is None else [(near, 0, end + (lane.left - 1) * near)]
    for step in lane.steps:
        if is_drawing(step, "left"):
            goal = step.place + step.ahead
            if end is not None:
                goal = max(goal, end + (step.ring - 1) * near)
            away = step.left - step.ring
            told.extend([(near, 0, goal + away * near), (far, 0, goal + away * far)])
        elif end is not None and is_drawing(step, "right"):
            least = end + (step.left - 1) * near
            told.extend([(near, 0, least + more * (far - near)) for more in range(step.ring)])
    return told


def right_forms(lane):
    """The right forms of a lane."""
    told = []
    for step in lane.steps:
        if is_drawing(step, "right"):
            goal = step.place + step.ahead
            away = step.right - step.ring
            told.extend([(0, -pace, goal - away * pace) for pace in (lane.near, lane.far)])
    return told


def orders(lanes):
    """Forms that are not below 0 just at the spots where the lanes are settled together, if these are far enough."""
    lefts = [form for lane in lanes for form in left_forms(lane)]
    rights = [form for lane in lanes for form in right_forms(lane)]
    told = [lead(one, other) for one in lefts for other in lefts if one[0] > other[0]]
    # The factor of M is told without its sign: of two right forms the one that falls faster has the greater one.
    told.extend([lead(other, one) for one in rights for other in rights if one[1] < other[1]])
    for left in lefts:
        for right in rights:
            told.append(raised(left, -worth(right, FIRST_SPOT)))
            told.append(raised(opposite(right), worth(left, FIRST_SPOT)))
    return told


def is_settled(lanes, spot):
    """Whether the lanes are settled together at the spot."""
    if min(spot) < LEAST_SETTLED:
        return False
    return all([worth(form, spot) >= 0 for form in orders(lanes)])


def least_settled(lanes):
    """The least t for which the lanes are settled together at (t, t), and so at all spots behind it."""
    # Each of the forms grows with t, so that the stretch begins somewhere, if there is any form, and has no end.
    first, _ = held(orders(lanes), (0, 0), (1, 1))
    return LEAST_SETTLED if first is None else max(LEAST_SETTLED, first)
