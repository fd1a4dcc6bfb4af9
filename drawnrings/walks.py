"""Walks: the looks at all spots of a line, and at all spots that there are."""

from drawnrings.forms import held
from drawnrings.looks import look
from drawnrings.stretches import shared


def pieces(lanes, spot, step, last):
    """The pieces (first, last, outcomes) of the line of the spots spot + t * step, t from 0 to last.

    last is None if the line goes on without end; so it is for the last piece then.
    """
    found = []
    start = 0
    while start is not None:
        forms, outcomes = look(lanes, (spot[0] + start * step[0], spot[1] + start * step[1]))
        _, end = shared(held(forms, spot, step), (start, last))
        found.append((start, end, outcomes))
        start = None if end == last else end + 1
    return found


def where(found, spot, step, terms):
    """The stretches of a line on which none of the forms is below 0 that terms returns for a piece's outcomes.

    terms returns None where there is no such spot.
    """
    told = []
    for first, last, outcomes in found:
        forms = terms(outcomes)
        stretch = None if forms is None else held(forms, spot, step)
        part = None if stretch is None else shared(stretch, (first, last))
        if part is not None:
            told.append(part)
    return told


def column(lanes, cells, left, right):
    """The pieces of the column of the spots (left, M), M from right on, and the cells that it goes through.

    A piece is a tuple (first, last, outcomes) for the M from first to last; a cell is what look returns. The cells
    that are passed, those of the column before, save looks: most of them go on in this one.
    """
    known = [(held(cell[0], (left, 0), (0, 1)), cell) for cell in cells]
    known = [(stretch, cell) for stretch, cell in known if stretch is not None]
    found = []
    met = []
    while right is not None:
        stretch, cell = covering(lanes, known, left, right)
        found.append((right, stretch[1], cell[1]))
        met.append(cell)
        right = None if stretch[1] is None else stretch[1] + 1
    return found, met


def covering(lanes, known, left, right):
    """The stretch of the column in a cell with this spot, and the cell; one that is known, if there is one."""
    for stretch, cell in known:
        if shared(stretch, (right, right)) is not None:
            return stretch, cell
    cell = look(lanes, (left, right))
    return held(cell[0], (left, 0), (0, 1)), cell


def is_endless(cells):
    """Whether all spots further to the right of spots of the cells are in the same cells."""
    return all([form[0] >= 0 for forms, _ in cells for form in forms])


def columns(lanes, rings):
    """The columns of the spots of all numbers of rings from `rings` on: pairs (left, pieces).

    There are as many as are needed: all columns behind the last one have the same pieces as it and the one before.
    """
    cells = []
    left = 0
    ends = 0
    while ends < 2:
        left = left + 1
        found, cells = column(lanes, cells, left, max(1, rings + 1 - left))
        if left >= rings and is_endless(cells):
            ends = ends + 1
        yield (left, found)
