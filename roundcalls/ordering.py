"""The order of values: by their tags at the shortest path at which they part."""

from roundcalls.paths import tag_at
from roundcalls.sameness import parting_path
from roundcalls.sheets import least_sheet


def compare_values(sheet, other):
    """Return -1, 0 or 1 if the first value is less than the other one, the same, greater."""
    path = parting_path(sheet, other)
    if path is None:
        return 0
    if tag_at(sheet, path) < tag_at(other, path):
        return -1
    return 1


def sort_values(*sheets, reverse=False):
    """Return the values of the sheets, ascending, or descending with reverse=True, without duplicates."""
    ordered = []
    for sheet in sheets:
        value = least_sheet(sheet)
        place = place_among(ordered, value)
        if place is not None:
            ordered.insert(place, value)
    if reverse:
        return tuple(ordered[::-1])
    return tuple(ordered)


def place_among(ordered, value):
    """Return the place of a value among ascending values, or None if it is one of them."""
    low, high = 0, len(ordered)
    while low < high:
        middle = (low + high) // 2
        order = compare_values(value, ordered[middle])
        if order == 0:
            return None
        if order < 0:
            high = middle
        else:
            low = middle + 1
    return low
