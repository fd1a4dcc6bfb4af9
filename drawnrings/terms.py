"""Terms: what is asked of outcomes, told by forms that are not below 0 just where it is so.

Each function returns the list of these forms; None if it is so nowhere.
"""

from drawnrings.forms import lead, opposite, raised


def same_worth(form, other):
    """The terms of both forms being worth the same."""
    gap = lead(form, other)
    return [gap, opposite(gap)]


def at_most(form, place):
    """The terms of a least or greatest place, if there is one, being at this place or to the left of it."""
    if form is None:
        return None
    return [raised(opposite(form), place)]


def at_least(form, place):
    """The terms of a least or greatest place, if there is one, being at this place or to the right of it."""
    if form is None:
        return None
    return [raised(form, -place)]


def sure_terms(outcomes):
    """The terms of a ring's place being sure; the outcomes are those of the outer lanes."""
    least = outcomes[0][0]
    greatest = outcomes[-1][1]
    if least is None or greatest is None:
        return None
    return same_worth(least, greatest)


def alike_terms(outcomes, same_way):
    """The terms of two lanes leading a ring to the same place, for all standings.

    same_way is whether they take the ring from the same number, and carry it equally far; if they do not, it is at
    the same place only where it hangs on no standing.
    """
    (least, greatest), (other_least, other_greatest) = outcomes
    pairs = [(least, other_least), (greatest, other_greatest)]
    if not same_way:
        if greatest is None:
            return None
        pairs.append((least, greatest))
    terms = []
    for one, other in pairs:
        if one is not None and other is not None:
            terms.extend(same_worth(one, other))
        elif one is not None or other is not None:
            return None
    return terms
