"""What kind of thing a value is, asked of values of any kind."""


def is_number(thing):
    """Return whether a value is an integer; a bool is none."""
    return isinstance(thing, int) and not isinstance(thing, bool)


def is_natural(thing):
    """Return whether a value is an integer from 0 on."""
    return is_number(thing) and thing >= 0


def is_index(thing, size):
    """Return whether a value is an integer from 0 on below a size."""
    return is_natural(thing) and thing < size


def is_row_of(thing, size):
    """Return whether a value is a tuple of so many items."""
    return isinstance(thing, tuple) and len(thing) == size


def is_pair(thing):
    """Return whether a value is a tuple of two items."""
    return is_row_of(thing, 2)


def is_ascending(items):
    """Return whether each of some items, all of one kind, is greater than the one before it."""
    return all([items[at] < items[at + 1] for at in range(len(items) - 1)])


def is_same_thing(thing, expected):
    """Return whether a value of any kind is the expected one, made of tuples, strings, integers, bools and None.

    Unlike beside ==, a bool is the same as no integer, inside of tuples neither.
    """
    if isinstance(expected, tuple):
        if not is_row_of(thing, len(expected)):
            return False
        return all([is_same_thing(item, other) for item, other in zip(thing, expected)])
    return isinstance(thing, bool) == isinstance(expected, bool) and thing == expected
