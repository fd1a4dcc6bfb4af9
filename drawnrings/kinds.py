"""What kinds of values there are, asked of values that may be anything."""


def is_integer(value):
    """Whether this is an integer; True and False are none."""
    # Asked by the exact class: isinstance believes objects that pretend to be of another one.
    return type(value) is int


def is_index(value, many):
    """Whether this is an index into so many things."""
    return is_integer(value) and 0 <= value < many


def is_filled_tuple(value):
    """Whether this is a tuple of one element or more."""
    return type(value) is tuple and len(value) > 0
