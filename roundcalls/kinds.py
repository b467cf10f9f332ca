"""What kind of thing a value is, asked of values of any kind."""


def is_number(thing):
    """Return whether a value is an integer; a bool is none."""
    return isinstance(thing, int) and not isinstance(thing, bool)


def is_index(thing, size):
    """Return whether a value is an integer from 0 on below a size."""
    return is_number(thing) and 0 <= thing < size


def is_pair(thing):
    """Return whether a value is a tuple of two items."""
    return isinstance(thing, tuple) and len(thing) == 2
