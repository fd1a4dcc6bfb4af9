"""Lanes: the moves of a script as the rings meet them that are there at the end."""

from drawnrings.rows import rings_gained


class Step:
    """A move, and what there is behind it.

    `end` is where the rail ends, None if it does not. `left` and `right` are by how much a ring's number from the
    left, and from the right, is greater behind the move than at the end. `ahead` is how far a ring is carried yet.
    """

    def __init__(self, move, end, done, ahead):
        self.kind, self.side, self.ring, self.place = move
        self.end = None if end is None else end + carried_by(done)
        self.left = -gained_on("left", ahead)
        self.right = -gained_on("right", ahead)
        self.ahead = carried_by(ahead)


class Lane:
    """All steps of a script.

    `end` and `left` are those of the beginning, as in a step; `carried` is how far a ring is carried in all.
    """

    def __init__(self, cloth, moves):
        self.near = cloth[0]
        self.far = cloth[1]
        self.end = cloth[2] if len(cloth) == 3 else None
        self.left = -gained_on("left", moves)
        self.carried = carried_by(moves)
        self.steps = [
            Step(moves[index], self.end, moves[:index + 1], moves[index + 1:]) for index in range(len(moves))
        ]


def gained_on(side, moves):
    """How many rings more there are behind these moves for what was hooked on and taken off on this side."""
    return sum([rings_gained(move) for move in moves if move[1] == side])


def carried_by(moves):
    """How far the rail is carried along by these moves."""
    return sum([move[3] for move in moves if move[0] == "carry"])


def lane_of(script, side):
    """The lane of the script if each `some` draws the first ring from this side."""
    return Lane(script.cloth, [("draw", side, 1, move[3]) if move[0] == "some" else move for move in script.moves])


def outer_lanes(script):
    """The lanes of the script by which all rings are as far to the left, and as far to the right, as they can be.

    They are the first and the last one of the list: a script that is known has one lane alone.
    """
    if script.known:
        return [lane_of(script, "left")]
    return [lane_of(script, "right"), lane_of(script, "left")]
