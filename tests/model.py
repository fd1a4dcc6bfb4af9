"""A rail told in another way than in the package: each ring follows its neighbour, one after the other.

A state is a pair (cloth, places). The package is compared with this, so nothing of it is imported here.
"""

import itertools


def standings(cloth, rings, firsts):
    """All standings of so many rings, the first one at one of the places `firsts`."""
    gaps = range(cloth[0], cloth[1] + 1)
    return [
        tuple(itertools.accumulate((first, *told)))
        for first in firsts
        for told in itertools.product(gaps, repeat=rings - 1)
    ]


def hangs(cloth, places):
    """Whether the places are a standing, asked ring by ring."""
    if len(cloth) == 3 and min(places) < cloth[2]:
        return False
    return all(cloth[0] <= right - left <= cloth[1] for left, right in zip(places, places[1:]))


def nearest(place, low, high):
    """The integer from low to high that is nearest to the place."""
    return min(range(low, high + 1), key=lambda other: abs(other - place))


def drawn(cloth, places, index, place):
    near, far = cloth[:2]
    if len(cloth) == 3 and place < cloth[2] + index * near:
        place = cloth[2] + index * near
    new = list(places)
    new[index] = place
    for k in range(index + 1, len(new)):
        new[k] = nearest(new[k], new[k - 1] + near, new[k - 1] + far)
    for k in reversed(range(index)):
        new[k] = nearest(new[k], new[k + 1] - far, new[k + 1] - near)
    return tuple(new)


def needs(move):
    """The least number of rings for a move."""
    words = move.split(" ")
    if words[0] in ("left", "right"):
        return int(words[1])
    return 2 if words[0] == "off" else 1


def moved(state, move):
    """The state behind a move that can be done."""
    cloth, places = state
    words = move.split(" ")
    if move == "off left":
        return cloth, places[1:]
    if move == "off right":
        return cloth, places[:-1]
    if words[0] == "left":
        return cloth, drawn(cloth, places, int(words[1]) - 1, int(words[3]))
    if words[0] == "right":
        return cloth, drawn(cloth, places, len(places) - int(words[1]), int(words[3]))
    if words[0] == "carry":
        way = int(words[1])
        ends = [end + way for end in cloth[2:]]
        return (*cloth[:2], *ends), tuple([place + way for place in places])
    if words[1] == "left":
        return cloth, drawn(cloth, (10 ** 9, *places), 0, int(words[2]))
    return cloth, drawn(cloth, (*places, -10 ** 9), len(places), int(words[2]))
