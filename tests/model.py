"""A rail told in another way than in the package: each ring follows its neighbour, one after the other.

A state is a pair (cloth, places). The package is compared with this, so nothing of it is imported here.
"""

import itertools


def standings(cloth, rings, firsts):
    """All standings of so many rings, the first one at one of the places `firsts`."""
    gaps = range(cloth[0], cloth[1] + 1)
    return [
        tuple(itertools.accumulate((first, *told)))
        for first in firsts
        for told in itertools.product(gaps, repeat=rings - 1)
    ]


def hangs(cloth, places):
    """Whether the places are a standing, asked ring by ring."""
    if len(cloth) == 3 and min(places) < cloth[2]:
        return False
    return all(cloth[0] <= right - left <= cloth[1] for left, right in zip(places, places[1:]))


def nearest(place, low, high):
    """The integer from low to high that is nearest to the place."""
    return min(range(low, high + 1), key=lambda other: abs(other - place))


def drawn(cloth, places, index, place):
    near, far = cloth[:2]
    if len(cloth) == 3 and place < cloth[2] + index * near:
        place = cloth[2] + index * near
    new = list(places)
    new[index] = place
    for k in range(index + 1, len(new)):
        new[k] = nearest(new[k], new[k - 1] + near, new[k - 1] + far)
    for k in reversed(range(index)):
        new[k] = nearest(new[k], new[k + 1] - far, new[k + 1] - near)
    return tuple(new)


def needs(move):
    """The least number of rings for a move."""
    words = move.split(" ")
    if words[0] in ("left", "right"):
        return int(words[1])
    return 2 if words[0] == "off" else 1


def moved(state, move):
    """The state behind a move that can be done."""
    cloth, places = state
    words = move.split(" ")
    if move == "off left":
        return cloth, places[1:]
    if move == "off right":
        return cloth, places[:-1]
    if words[0] == "left":
        return cloth, drawn(cloth, places, int(words[1]) - 1, int(words[3]))
    if words[0] == "right":
        return cloth, drawn(cloth, places, len(places) - int(words[1]), int(words[3]))
    if words[0] == "carry":
        way = int(words[1])
        ends = [end + way for end in cloth[2:]]
        return (*cloth[:2], *ends), tuple([place + way for place in places])
    if words[1] == "left":
        return cloth, drawn(cloth, (10 ** 9, *places), 0, int(words[2]))
    return cloth, drawn(cloth, (*places, -10 ** 9), len(places), int(words[2]))


def ended(cloth, places, moves):
    """The places behind moves that can be done."""
    state = (cloth, places)
    for move in moves:
        state = moved(state, move)
    return state[1]


def gained(move):
    """How many rings more there are behind a move."""
    return {"on": 1, "off": -1}.get(move.split(" ")[0], 0)


def choices(moves, rings):
    """All rows of moves in which each `some` draws one of the rings that are there, from the left."""
    rows = [()]
    for move in moves:
        if move.startswith("some "):
            told = [f"left {ring} {move[5:]}" for ring in range(1, rings + 1)]
        else:
            told = [move]
        rings += gained(move)
        rows = [(*row, one) for row in rows for one in told]
    return rows


def first_numbers(moves, rings):
    """The numbers from the left that the rings at the end had at first, None for those that were hooked on."""
    numbers = list(range(1, rings + 1))
    for move in moves:
        if move == "off left":
            numbers = numbers[1:]
        elif move == "off right":
            numbers = numbers[:-1]
        elif move.startswith("on left "):
            numbers = [None, *numbers]
        elif move.startswith("on right "):
            numbers = [*numbers, None]
    return numbers


def bounds(cloth, moves, rings):
    """The bounds (S, A, B) of all rings: where they are led from standings far to the left and far to the right."""
    gaps = range(0, rings * cloth[0], cloth[0])
    lefts = ended(cloth, tuple([(cloth[2] if len(cloth) == 3 else -10 ** 6) + gap for gap in gaps]), moves)
    rights = ended(cloth, tuple([10 ** 6 + gap for gap in gaps]), moves)
    drawn_once = any(move.split(" ")[0] in ("left", "right", "on") for move in moves)
    carried = sum(int(move.split(" ")[1]) for move in moves if move.startswith("carry "))
    told = []
    for low, high, number in zip(lefts, rights, first_numbers(moves, rings)):
        if not drawn_once:
            told.append((carried, low if len(cloth) == 3 else None, None))
        else:
            told.append((0 if number is None or low == high else carried, low, high))
    return told


def reaches(cloth, moves, rings):
    """The pairs of the least and the greatest place of all rings, over all choices of the rings that are drawn."""
    rows = [bounds(cloth, row, rings) for row in choices(moves, rings)]
    told = []
    for ring in range(len(rows[0])):
        lows = [row[ring][1] for row in rows]
        highs = [row[ring][2] for row in rows]
        told.append((None if None in lows else min(lows), None if None in highs else max(highs)))
    return told


def outer_reaches(cloth, moves, rings):
    """What `reaches` tells, but by the two choices that lead all rings furthest, so also for many rings."""
    lefts = bounds(cloth, [move.replace("some ", "right 1 ") for move in moves], rings)
    rights = bounds(cloth, [move.replace("some ", "left 1 ") for move in moves], rings)
    return [(low[1], high[2]) for low, high in zip(lefts, rights)]


def unlike_rings(cloth, one, other, rings):
    """The numbers from the left of the rings that two rows of moves lead to unlike places for some standing."""
    told = []
    ones = zip(bounds(cloth, one, rings), first_numbers(one, rings))
    others = zip(bounds(cloth, other, rings), first_numbers(other, rings))
    for ring, ((told_one, number), (told_other, other_number)) in enumerate(zip(ones, others), start=1):
        sure = told_one[1] is not None and told_one[1] == told_one[2]
        if told_one != told_other or number != other_number and not sure:
            told.append(ring)
    return told


def carried(moves):
    """How far a ring is carried by these moves."""
    return sum(int(move[6:]) for move in moves if move.startswith("carry "))


def number_more(side, moves):
    """By how much a ring's number from this side is greater ahead of these moves than behind them."""
    return moves.count(f"off {side}") - sum(move.startswith(f"on {side} ") for move in moves)


def drawn_by(side, move):
    """The pair (J, P) of a move that draws the J-th ring from this side to P, None if it does not."""
    words = move.split(" ")
    if words[0] == side:
        return int(words[1]), int(words[3])
    if words[:2] == ["on", side]:
        return 1, int(words[2])
    return None


def forms(cloth, moves):
    """The left forms and the right forms of a known script, as pairs (factor, rest)."""
    near, far = cloth[:2]
    end = cloth[2] + carried(moves) if len(cloth) == 3 else None
    lefts = []
    rights = []
    if end is not None:
        lefts.append((near, end + (number_more("left", moves) - 1) * near))
    for at, move in enumerate(moves):
        behind = moves[at + 1:]
        more = number_more("left", behind)
        if drawn_by("left", move) is not None:
            ring, place = drawn_by("left", move)
            goal = place + carried(behind)
            if end is not None and goal < end + (ring - 1) * near:
                goal = end + (ring - 1) * near
            lefts += [(pace, goal + (more - ring) * pace) for pace in (near, far)]
        if drawn_by("right", move) is not None:
            ring, place = drawn_by("right", move)
            goal = place + carried(behind)
            rights += [(pace, goal - (number_more("right", behind) - ring) * pace) for pace in (near, far)]
            if end is not None:
                lefts += [(near, end + (more - 1) * near + less * (far - near)) for less in range(ring)]
    return lefts, rights


def settled(scripts, left, right):
    """Whether known scripts, pairs (cloth, moves), are settled together at (left, right)."""
    told = [forms(cloth, moves) for cloth, moves in scripts]
    lefts = [form for pair in told for form in pair[0]]
    rights = [form for pair in told for form in pair[1]]

    def at_left(form, number):
        return form[0] * number + form[1]

    def at_right(form, number):
        return form[1] - form[0] * number

    if left < 11 or right < 11:
        return False
    for one, other in itertools.product(lefts, repeat=2):
        if one[0] > other[0] and at_left(one, left) < at_left(other, left):
            return False
    for one, other in itertools.product(rights, repeat=2):
        if one[0] > other[0] and at_right(one, right) > at_right(other, right):
            return False
    for one, other in itertools.product(lefts, rights):
        if at_left(one, left) < at_right(other, 1) or at_left(one, 1) < at_right(other, right):
            return False
    return True


def surely_covered(cloth, moves, a, b, rings):
    told = bounds(cloth, moves, rings)
    return told[0][2] is not None and told[0][2] <= a and told[-1][1] >= b


def surely_free(cloth, moves, a, b, rings):
    told = bounds(cloth, moves, rings)
    return told[-1][2] is not None and told[-1][2] <= a or told[0][1] is not None and told[0][1] >= b
