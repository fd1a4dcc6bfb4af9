"""Lanes: the moves of a script as the rings meet them that are there at the end."""

from drawnrings.rows import rings_gained


class Step:
    """A move, and what there is behind it.

    `end` is where the rail ends, None if it does not. `left` and `right` are by how much a ring's number from the
    left, and from the right, is greater behind the move than at the end.
    """

    def __init__(self, move, end, left, right):
        self.kind, self.side, self.ring, self.place = move
        self.end = end
        self.left = left
        self.right = right


class Lane:
    """All steps of a script; `end` and `left` are those of the beginning, as in a step."""

    def __init__(self, cloth, end, left, steps):
        self.near = cloth[0]
        self.far = cloth[1]
        self.end = end
        self.left = left
        self.steps = steps


def gained_on(side, moves):
    """How many rings more there are behind these moves for what was hooked on and taken off on this side."""
    return sum([rings_gained(move) for move in moves if move[1] == side])


def lane_of(script, side):
    """The lane of the script if each `some` draws the first ring from this side."""
    moves = [("draw", side, 1, move[3]) if move[0] == "some" else move for move in script.moves]
    end = script.cloth[2] if len(script.cloth) == 3 else None
    left = -gained_on("left", moves)
    right = -gained_on("right", moves)
    lane = Lane(script.cloth, end, left, [])
    for move in moves:
        left = left + gained_on("left", [move])
        right = right + gained_on("right", [move])
        if move[0] == "carry" and end is not None:
            end = end + move[3]
        lane.steps.append(Step(move, end, left, right))
    return lane


def outer_lanes(script):
    """The lanes of the script by which all rings are as far to the left, and as far to the right, as they can be.

    They are the first and the last one of the list: a script that is known has one lane alone.
    """
    if script.known:
        return [lane_of(script, "left")]
    return [lane_of(script, "right"), lane_of(script, "left")]
