"""Tests of the kinds of values ([1]) that the other files share."""


def is_integer(value):
    """Whether a value is an integer; True and False are none."""
    return isinstance(value, int) and not isinstance(value, bool)


def is_integer_from(value, low, high):
    """Whether a value is an integer from low to high."""
    return is_integer(value) and low <= value <= high


def is_side(value):
    """Whether a value is one of the two sides on which a tie is crossed."""
    return is_integer(value) and abs(value) == 1


def is_tuple_of(value, size):
    """Whether a value is a tuple of so many members."""
    return isinstance(value, tuple) and len(value) == size


def is_tuple_up_to(value, size):
    """Whether a value is a tuple of at most so many members."""
    return isinstance(value, tuple) and len(value) <= size
