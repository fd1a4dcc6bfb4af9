"""Sweeps: what is told of all rings of all numbers of rings at once."""

from drawnrings.forms import held
from drawnrings.stretches import joined, without
from drawnrings.terms import alike_terms, sure_terms
from drawnrings.walks import columns


def failing(terms, left, first, last):
    """The stretches of the M from first to last for which the terms do not hold at the spot (left, M)."""
    stretch = None if terms is None else held(terms, (left, 0), (0, 1))
    if stretch is None:
        return [(first, last)]
    return without((first, last), stretch)


def unlike_rows(lanes, rings):
    """Of each column of all numbers of rings from `rings` on: pairs (left, rows).

    The rows are the stretches of the M for which two lanes lead the ring at the spot (left, M) to unlike places.
    """
    one, other = lanes
    same_way = one.left == other.left and one.carried == other.carried
    for left, found in columns(lanes, rings):
        rows = [
            row for first, last, outcomes in found
            for row in failing(alike_terms(outcomes, same_way), left, first, last)
        ]
        yield (left, rows)


def first_unlike(lanes, rings):
    """The pair (m, ring) for the least number m of rings at the end with which two lanes lead to unlike standings.

    Only numbers from `rings` on are looked at; the ring is the least one from the left that comes to unlike places.
    None if there is no such number.
    """
    told = None
    for left, rows in unlike_rows(lanes, rings):
        if told is not None and left >= told[0]:
            return told
        if len(rows) > 0:
            many = left + rows[0][0] - 1
            if told is None or many < told[0]:
                told = (many, left)
    return told


def loose_numbers(lanes, rings):
    """The stretches of all numbers of rings at the end, from `rings` on, with which some ring's place is not sure."""
    told = []
    beyond = []
    for left, found in columns(lanes, rings):
        rows = [row for first, last, outcomes in found for row in failing(sure_terms(outcomes), left, first, last)]
        parts = [(left + first - 1, None if last is None else left + last - 1) for first, last in rows]
        told.extend(parts)
        # What is not sure in the last column is not sure in any behind it, so with no greater number.
        beyond = [(first, None) for first, _ in parts[:1]]
    return joined(told + beyond)
