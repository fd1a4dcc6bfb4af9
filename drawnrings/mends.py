"""Wishes for scripts, and the least exchanges of rows that make them hold."""

from itertools import combinations

from drawnrings.asking import covers, frees, loose_starts, parting
from drawnrings.checks import is_window_end
from drawnrings.errors import InvalidExchanges, InvalidRows, InvalidWish, InvalidWishes
from drawnrings.kinds import is_index, is_integer
from drawnrings.limits import MOST_EXCHANGES
from drawnrings.scripts import Script, check_script
from drawnrings.stretches import least_inside, least_outside

WINDOW_WORDS = ("covers", "frees")


def is_wish(value):
    """Whether this is a wish for a script."""
    if type(value) is not tuple or len(value) < 2 or type(value[0]) is not str:
        return False
    if value[0] in WINDOW_WORDS:
        return len(value) == 4 and is_window(value[1], value[2]) and is_start(value[3])
    if value[0] == "still":
        return len(value) == 2 and is_start(value[1])
    return value[0] == "alike" and len(value) == 2 and type(value[1]) is Script


def is_window(a, b):
    """Whether these are the places of a window."""
    return is_integer(a) and is_window_end(a, b)


def is_start(value):
    """Whether this is a number of rings from which on a wish may ask."""
    return is_integer(value) and value >= 1


def fault(script, wish):
    """None if the wish holds for the script, otherwise what shows that it does not."""
    check_script(script)
    if not is_wish(wish):
        raise InvalidWish(wish)
    return fault_of(script, wish)


def fault_of(script, wish):
    """What fault returns, for a script and a wish."""
    word = wish[0]
    if word == "alike":
        if not script.known or not wish[1].known:
            return "some"
        return parting(script, wish[1])
    start = max(wish[-1], script.least)
    if word == "still":
        return least_inside(loose_starts(script), start)
    if word == "covers":
        return least_outside(covers(script, wish[1], wish[2]), start)
    if not script.known:
        return "some"
    return least_outside(frees(script, wish[1], wish[2]), start)


def is_exchange(value, script):
    """Whether this is a pair of the index of a row of the script and a string."""
    return type(value) is tuple and len(value) == 2 and is_index(value[0], len(script.rows)) and type(value[1]) is str


def check_exchanges(exchanges, script):
    """Raise InvalidExchanges for everything but a tuple of exchanges, at most as many as are allowed."""
    if type(exchanges) is not tuple or len(exchanges) > MOST_EXCHANGES:
        raise InvalidExchanges(None)
    for index, exchange in enumerate(exchanges):
        if not is_exchange(exchange, script):
            raise InvalidExchanges(index)


def check_wishes(wishes):
    """Raise InvalidWishes for everything but a tuple of wishes."""
    if type(wishes) is not tuple:
        raise InvalidWishes(None)
    for index, wish in enumerate(wishes):
        if not is_wish(wish):
            raise InvalidWishes(index)


def exchanged(script, lot):
    """The script with all exchanges of a lot, None if its rows make none then."""
    rows = list(script.rows)
    for index, row in lot:
        rows[index] = row
    try:
        return Script(*rows)
    except InvalidRows:
        return None


def mends_all(script, lot, wishes):
    """Whether the exchanges of a lot make all wishes hold."""
    changed = exchanged(script, lot)
    if changed is None:
        return False
    for wish in wishes:
        if fault_of(changed, wish) is not None:
            return False
    return True


def is_lot(lot):
    """Whether no two of the exchanges are of the same row."""
    return len(set([index for index, _ in lot])) == len(lot)


def has_part(indexes, told):
    """Whether one of the lots that were told is a part of this one; all lots are ascending tuples of indexes."""
    for part in told:
        if all([index in indexes for index in part]):
            return True
    return False


def mending(script, exchanges, wishes):
    """All least lots of exchanges with which all wishes hold."""
    check_script(script)
    check_exchanges(exchanges, script)
    check_wishes(wishes)
    told = []
    for many in range(len(exchanges) + 1):
        for indexes in combinations(range(len(exchanges)), many):
            lot = [exchanges[index] for index in indexes]
            # Shorter lots come first, so each lot that mends is told, or has a part that is.
            if is_lot(lot) and not has_part(indexes, told) and mends_all(script, lot, wishes):
                told.append(indexes)
    return tuple(told)
