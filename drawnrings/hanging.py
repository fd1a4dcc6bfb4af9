"""How the rings hang: what a drawing and a move make of a cloth and a standing for it."""

from drawnrings.kinds import is_integer


def wrong_place(cloth, places):
    """The least index at which a filled tuple is no standing for the cloth, None if it is one."""
    for index, place in enumerate(places):
        if not is_integer(place):
            return index
        if index == 0:
            # The end asks nothing of the other rings: each hangs at least g behind the one before it.
            fits = len(cloth) == 2 or place >= cloth[2]
        else:
            fits = cloth[0] <= place - places[index - 1] <= cloth[1]
        if not fits:
            return index
    return None


def clamped(place, low, high):
    """The place clamped to low and high."""
    return max(low, min(place, high))


def reached(cloth, index, place):
    """Where the ring with this index comes to if it is drawn to a place, which may lie beyond the end."""
    if len(cloth) == 2:
        return place
    return max(place, cloth[2] + index * cloth[0])


def drawn(cloth, places, index, place):
    """The standing behind the drawing of the ring with this index to a place."""
    near, far = cloth[0], cloth[1]
    goal = reached(cloth, index, place)
    left = [clamped(places[k], goal - (index - k) * far, goal - (index - k) * near) for k in range(index)]
    right = [
        clamped(places[k], goal + (k - index) * near, goal + (k - index) * far)
        for k in range(index + 1, len(places))
    ]
    return (*left, goal, *right)


def carried(cloth, places, way):
    """The cloth and the standing behind the carrying of the rail, with its end, by this way."""
    ends = tuple([end + way for end in cloth[2:]])
    return cloth[:2] + ends, tuple([place + way for place in places])


def taken_off(places, side):
    """The standing without the ring that is the last one on this side."""
    if side == "left":
        return places[1:]
    return places[:-1]


def hooked_on(places, side):
    """The places with a ring more on this side, which is yet to be drawn and so may be anywhere."""
    if side == "left":
        return (places[0], *places)
    return (*places, places[-1])


def moved(cloth, places, move):
    """The cloth and the standing behind a move that was read, is not `some`, and can be done."""
    kind, side, ring, place = move
    if kind == "carry":
        return carried(cloth, places, place)
    if kind == "off":
        return cloth, taken_off(places, side)
    if kind == "on":
        places = hooked_on(places, side)
    if side == "left":
        return cloth, drawn(cloth, places, ring - 1, place)
    return cloth, drawn(cloth, places, len(places) - ring, place)
