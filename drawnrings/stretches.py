"""Stretches (first, last) of integers; None for a first or a last one that there is not."""


def shared(one, other):
    """The stretch of the integers that are in both stretches, None if there are none."""
    first = greater_of(one[0], other[0])
    last = less_of(one[1], other[1])
    if first is not None and last is not None and first > last:
        return None
    return (first, last)


def greater_of(one, other):
    """The greater one of two integers; None bounds nothing."""
    if one is None or other is None:
        return other if one is None else one
    return max(one, other)


def less_of(one, other):
    """The less one of two integers; None bounds nothing."""
    if one is None or other is None:
        return other if one is None else one
    return min(one, other)


def joined(stretches):
    """The same integers in stretches that ascend and don't touch; each one passed has a first integer."""
    told = []
    for first, last in sorted(stretches, key=lambda stretch: stretch[0]):
        if len(told) > 0 and (told[-1][1] is None or first <= told[-1][1] + 1):
            begin, end = told[-1]
            told[-1] = (begin, None if end is None or last is None else max(end, last))
        else:
            told.append((first, last))
    return told


def in_both(ones, others):
    """The stretches of the integers that are in some stretch of both lists."""
    pairs = [shared(one, other) for one in ones for other in others]
    return joined([pair for pair in pairs if pair is not None])


def without(stretch, gap):
    """The stretches that are left of one with a first integer if the integers of the gap are taken out."""
    gap = shared(stretch, gap)
    if gap is None:
        return [stretch]
    left = []
    if gap[0] > stretch[0]:
        left.append((stretch[0], gap[0] - 1))
    if gap[1] != stretch[1]:
        left.append((gap[1] + 1, stretch[1]))
    return left


def further(stretches, way):
    """The tuple of these stretches, all their integers greater by this way."""
    return tuple([(first + way, None if last is None else last + way) for first, last in stretches])


def least_inside(stretches, start):
    """The least integer of at least start that is in one of these ascending stretches, None if none is."""
    for first, last in stretches:
        if last is None or last >= start:
            return max(first, start)
    return None


def least_outside(stretches, start):
    """The least integer of at least start that is in none of these ascending stretches, None if all are."""
    for first, last in stretches:
        if first <= start and last is None:
            return None
        if first <= start <= last:
            # The stretches don't touch, so the integer behind this one is in none.
            return last + 1
    return start
