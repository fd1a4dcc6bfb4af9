"""The rows of scripts: how cloths and moves are written, and how many rings a move needs.

A move that was read is a tuple (kind, side, ring, place). Its kind is "draw", "some", "carry", "off" or
"on"; its side "left" or "right"; its ring counts from this side. What a kind does not have is "" or 0.
"""

from drawnrings.kinds import is_integer
from drawnrings.limits import MOST_CLOTH, MOST_NAMED, MOST_PLACE

SIDES = ("left", "right")


def written(word):
    """The integer that this word writes just as Python writes it, None if it writes none so."""
    try:
        number = int(word)
    except ValueError:
        return None
    if str(number) != word:
        return None
    return number


def is_row_place(value):
    """Whether this is an integer that a row may tell as a place."""
    return is_integer(value) and -MOST_PLACE <= value <= MOST_PLACE


def is_cloth(value):
    """Whether this is a cloth: (g, G), or (g, G, W) for a rail that ends at W."""
    if type(value) is not tuple or len(value) not in (2, 3):
        return False
    if not all([is_integer(number) for number in value]):
        return False
    if not 1 <= value[0] < value[1] <= MOST_CLOTH:
        return False
    return len(value) == 2 or is_row_place(value[2])


def read_cloth(row):
    """The cloth that this row writes, None if it writes none."""
    if type(row) is not str:
        return None
    words = row.split(" ")
    if words[0] != "cloth" or len(words) not in (3, 5) or words[3:4] not in ([], ["from"]):
        return None
    cloth = tuple([written(word) for word in words[1:3] + words[4:]])
    if not is_cloth(cloth):
        return None
    return cloth


def read_move(row):
    """The move (kind, side, ring, place) that this row writes, None if it writes none."""
    if type(row) is not str:
        return None
    words = row.split(" ")
    if words[0] in SIDES:
        return read_drawing(words)
    if words[0] == "off":
        return read_off(words)
    if words[:2] == ["some", "to"]:
        return placed_move(words[2:], "some", "", 0)
    if words[0] == "carry":
        return placed_move(words[1:], "carry", "", 0)
    if words[0] == "on" and words[1:2] in (["left"], ["right"]):
        return placed_move(words[2:], "on", words[1], 1)
    return None


def read_drawing(words):
    """The move of words that begin with a side, None if they are not `left J to P` or `right J to P`."""
    if len(words) != 4 or words[2] != "to":
        return None
    ring = written(words[1])
    if ring is None or not 1 <= ring <= MOST_NAMED:
        return None
    return placed_move(words[3:], "draw", words[0], ring)


def read_off(words):
    """The move of words that begin with `off`, None if they are not `off left` or `off right`."""
    if len(words) != 2 or words[1] not in SIDES:
        return None
    return ("off", words[1], 0, 0)


def placed_move(words, kind, side, ring):
    """The move with the place that these last words write, None if they are not just one place."""
    if len(words) != 1:
        return None
    place = written(words[0])
    if not is_row_place(place):
        return None
    return (kind, side, ring, place)


def rings_needed(move):
    """The least number of rings with which this move can be done."""
    kind, _, ring, _ = move
    if kind == "draw":
        return ring
    if kind == "off":
        return 2
    return 1


def rings_gained(move):
    """How many rings more there are behind this move."""
    if move[0] == "on":
        return 1
    if move[0] == "off":
        return -1
    return 0
