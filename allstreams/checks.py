"""What arguments are asked for; BadValue holds an argument as it was passed."""

from allstreams.errors import BadValue


def is_integer(value):
    return isinstance(value, int) and not isinstance(value, bool)


def is_whole(value):
    return is_integer(value) and value >= 0


def need_string(value):
    if not isinstance(value, str):
        raise BadValue(value)


def is_list(value):
    return isinstance(value, (list, tuple))


def need_integer(value):
    if not is_integer(value):
        raise BadValue(value)


def need_whole(value):
    if not is_whole(value):
        raise BadValue(value)


def is_within(value, low, high):
    """Whether the value is an integer between these, both included."""
    return is_integer(value) and low <= value <= high


def need_within(value, low, high):
    if not is_within(value, low, high):
        raise BadValue(value)


def need_list(value):
    """The value, if it is a list or a tuple."""
    if not is_list(value):
        raise BadValue(value)
    return value


def need_places(values, many):
    """A list of whole numbers below many."""
    for value in need_list(values):
        if not is_whole(value) or value >= many:
            raise BadValue(value)
