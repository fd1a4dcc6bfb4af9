"""Looks: how a ring comes to its place, told at once for all spots at which this is told by the same forms.

An outcome is a pair (least, greatest) of the forms of the least and the greatest place of the ring, None if there is
none.
"""

from drawnrings.forms import lead, raised, tightest, worth


class Cell:
    """The spots around one spot at which each form that was asked about is below 0, or not, just as it is there.

    `forms` are not below 0 at just these spots.
    """

    def __init__(self, spot):
        self.spot = spot
        self.forms = []

    def holds(self, form):
        """Whether the form is not below 0 here; only the spots where this has the same answer stay."""
        if worth(form, self.spot) >= 0:
            self.forms.append(form)
            return True
        self.forms.append((-form[0], -form[1], -form[2] - 1))
        return False


def clamped(cell, form, low, high):
    """The form clamped to low and high."""
    if cell.holds(lead(low, form)):
        return low
    if cell.holds(lead(form, high)):
        return high
    return form


def wall(lane, end, left):
    """The form of the least place that the end of the rail leaves a ring, None if it does not end."""
    if end is None:
        return None
    return (lane.near, 0, end + (left - 1) * lane.near)


def greater_form(cell, form, other):
    """The form that is greater in the cell; None is less than all."""
    if other is None or cell.holds(lead(form, other)):
        return form
    return other


def limits(lane, step, cell):
    """The forms of the least and the greatest place that a drawing leaves the ring."""
    if step.side == "left":
        return limits_from_left(lane, step, cell)
    return limits_from_right(lane, step, cell)


def limits_from_left(lane, step, cell):
    """The limits of a drawing of the J-th ring from the left."""
    goal = step.place
    if step.end is not None:
        goal = max(goal, step.end + (step.ring - 1) * lane.near)
    # The ring is I + away rings to the right of the one that is drawn.
    away = step.left - step.ring
    tight = (lane.near, 0, goal + away * lane.near)
    wide = (lane.far, 0, goal + away * lane.far)
    if cell.holds((1, 0, away)):
        return tight, wide
    return wide, tight


def limits_from_right(lane, step, cell):
    """The limits of a drawing of the J-th ring from the right."""
    # The ring is M + away rings to the left of the one that is drawn.
    away = step.right - step.ring
    tight = (0, -lane.near, step.place - away * lane.near)
    wide = (0, -lane.far, step.place - away * lane.far)
    end = wall(lane, step.end, step.left)
    # The end moves only the greatest place: no ring is at less than the end leaves it anyway.
    if cell.holds((0, 1, away)):
        return wide, greater_form(cell, tight, end)
    if end is not None:
        more = lane.far - lane.near
        end = (end[0], -more, end[2] - away * more)
    return tight, greater_form(cell, wide, end)


def outcome(lane, cell):
    """The outcome of the lane for the ring at the cell's spot, and for all in what is left of the cell."""
    # A ring that was hooked on is told as if it had been there before, beyond the others: its hooking draws it, and
    # leaves it one place, wherever it was.
    least = wall(lane, lane.end, lane.left)
    greatest = None
    for step in lane.steps:
        if step.kind == "carry":
            least = raised(least, step.place)
            greatest = raised(greatest, step.place)
        elif step.kind != "off":
            low, high = limits(lane, step, cell)
            least = low if least is None else clamped(cell, least, low, high)
            greatest = high if greatest is None else clamped(cell, greatest, low, high)
    return least, greatest


def look(lanes, spot):
    """The forms of a cell around the spot, which are not below 0 just there; and each lane's outcome in it."""
    cell = Cell(spot)
    outcomes = [outcome(lane, cell) for lane in lanes]
    return tightest(cell.forms), outcomes


def place_at(form, spot):
    """The least or greatest place that this form tells at the spot, None if there is none."""
    if form is None:
        return None
    return worth(form, spot)


def bounds_at(lane, told, spot):
    """The bounds (S, A, B) that this outcome of the lane tells at the spot."""
    low = place_at(told[0], spot)
    high = place_at(told[1], spot)
    if low is not None and low == high:
        return (0, low, high)
    return (lane.carried, low, high)
