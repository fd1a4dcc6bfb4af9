"""Certificates: claims for the checker, with what it accepts them by."""

from drawnrings.asking import covers, parting
from drawnrings.checker import is_covered, is_free, lanes_of
from drawnrings.checks import check_number, check_window
from drawnrings.scripts import check_known, check_script
from drawnrings.settling import least_settled
from drawnrings.stretches import least_outside


def certify_alike(one, other):
    """The claim that both scripts come to the same, or what shows that they do not, with its certificate.

    None if already their cloths, or the numbers of rings that they lead to, are unlike.
    """
    told = parting(one, other)
    if told is None:
        least = max(one.least, other.least)
        far = max(least_settled(lanes_of((one, other))), least, least + one.change)
        return (("alike", one.text, other.text), (far, far))
    if type(told) is str:
        return None
    n, ring = told
    return (("unlike", one.text, other.text, n, ring), ())


def certify_window(script, a, b, n):
    """The first one that is true of the claims that the window is covered, free and open, with its certificate."""
    check_window_with(script, a, b, n)
    word = "open"
    if is_covered(script, a, b, n):
        word = "covered"
    elif is_free(script, a, b, n):
        word = "free"
    return ((word, script.text, a, b, n), ())


def certify_kept(script, a, b, n):
    """The claim that the window is covered from n rings on, or what shows that it is not, with its certificate."""
    check_window_with(script, a, b, n)
    wrong = least_outside(covers(script, a, b), n)
    if wrong is not None:
        return (("open", script.text, a, b, wrong), ())
    most = max(n, least_settled(lanes_of((script,))) - script.change)
    return (("kept", script.text, a, b, n), most)


def check_window_with(script, a, b, n):
    """Raise an error for everything but a known script, a window and a number of rings."""
    check_script(script)
    check_window(a, b)
    check_number(script, n)
    check_known(script)
