"""A console at which a script is asked by lines of words."""

from drawnrings.asking import covers, frees
from drawnrings.bounds import dark, reach, sure
from drawnrings.checks import check_number, check_window
from drawnrings.errors import InvalidNumber, InvalidPlace, InvalidText
from drawnrings.kinds import is_index
from drawnrings.rows import written
from drawnrings.scripts import check_script


def tell_least(script, _):
    """The answer to `least`."""
    return str(script.least)


def tell_rings(script, numbers):
    """The answer to `rings N`."""
    n = numbers[0]
    check_number(script, n)
    return str(n + script.change)


def tell_row(script, numbers):
    """The answer to `row K`."""
    index = numbers[0]
    if not is_index(index, len(script.rows)):
        raise InvalidNumber(index)
    return script.rows[index]


def tell_ring(script, numbers):
    """The answer to `ring I of N`."""
    ring, n = numbers
    first, last = reach(script, n, ring)
    if first is None:
        return "anywhere"
    if last is None:
        return f"from {first} on"
    if first == last:
        return f"at {first}"
    return f"{first} to {last}"


def tell_sure(script, numbers):
    """The answer to `sure of N`."""
    return listed(sure(script, numbers[0]), "none")


def tell_dark(script, numbers):
    """The answer to `dark of N`."""
    window = dark(script, numbers[0])
    if window is None:
        return "none"
    return f"{window[0]} to {window[1]}"


def tell_covers(script, numbers):
    """The answer to `covers a b`."""
    a, b = numbers
    return listed(covers(script, a, b), "never")


def tell_frees(script, numbers):
    """The answer to `frees a b`."""
    a, b = numbers
    check_window(a, b)
    if not script.known:
        return "some"
    return listed(frees(script, a, b), "never")


def listed(stretches, nothing):
    """The stretches of numbers, in words; the word `nothing` if there are none."""
    if len(stretches) == 0:
        return nothing
    return ", ".join([spoken(stretch) for stretch in stretches])


def spoken(stretch):
    """A stretch of numbers, in words."""
    first, last = stretch
    if last is None:
        return f"{first} on"
    if first == last:
        return str(first)
    return f"{first} to {last}"


# What stands behind the first word of a line; "" stands for an integer.
SHAPES = {
    "least": (),
    "rings": ("",),
    "row": ("",),
    "ring": ("", "of", ""),
    "sure": ("of", ""),
    "dark": ("of", ""),
    "covers": ("", ""),
    "frees": ("", ""),
}

TELLERS = {
    "least": tell_least,
    "rings": tell_rings,
    "row": tell_row,
    "ring": tell_ring,
    "sure": tell_sure,
    "dark": tell_dark,
    "covers": tell_covers,
    "frees": tell_frees,
}


def numbers_in(line):
    """The integers in a line, None in the place of a word that is none; None if the line has not the form of one."""
    words = line.split(" ")
    shape = SHAPES.get(words[0])
    if shape is None or len(words) != len(shape) + 1:
        return None
    numbers = []
    for word, part in zip(words[1:], shape):
        if part == "":
            numbers.append(written(word))
        elif word != part:
            return None
    return numbers


def answer(script, line):
    """The answer to a line, None if it is none; what a number must be, those tell who are asked with it."""
    numbers = numbers_in(line)
    if numbers is None:
        return None
    tell = TELLERS[line.split(" ")[0]]
    try:
        return tell(script, numbers)
    except (InvalidNumber, InvalidPlace):
        return None


class Console:
    """A console for a script."""

    def __init__(self, script):
        check_script(script)
        self._script = script

    @property
    def script(self):
        return self._script

    def say(self, line):
        """The answer to a line."""
        if type(line) is not str:
            raise InvalidText(line)
        told = answer(self._script, line)
        if told is None:
            raise InvalidText(line)
        return told

    def __eq__(self, other):
        # Without this, another object that calls itself equal to everything would equal a console.
        return type(other) is Console and self is other
