"""Whether two sheets write the same value, what shows that they do, and where they part otherwise."""

from roundcalls.kinds import is_index, is_pair
from roundcalls.sheets import least_sheet


def are_same(sheet, other):
    """Return whether two sheets write the same value."""
    return least_sheet(sheet) == least_sheet(other)


def parting_path(sheet, other):
    """Return the shortest path at which two values part, of several the least; None if they are the same."""
    # Least sheets have the fewest pairs of rows to look at.
    first, second = least_sheet(sheet), least_sheet(other)
    paths = {(0, 0): ()}
    level = [(0, 0)]
    while level:
        following = []
        for pair in level:
            if not tags_agree(first, second, pair):
                return paths[pair]
            for at, below in enumerate(field_pairs(first, second, pair)):
                if below not in paths:
                    paths[below] = paths[pair] + (at,)
                    following.append(below)
        level = following
    return None


def same_pairs(sheet, other):
    """Return pairs of rows that show that two sheets write the same value, or None if they do not."""
    found = {(0, 0): True}
    waiting = [(0, 0)]
    while waiting:
        pair = waiting.pop()
        if not tags_agree(sheet, other, pair):
            return None
        for below in field_pairs(sheet, other, pair):
            if below not in found:
                found[below] = True
                waiting.append(below)
    return tuple(sorted(found))


def pairs_hold(sheet, other, thing):
    """Return whether a value is pairs of rows that show that two sheets write the same value."""
    if not isinstance(thing, tuple) or not all([is_row_pair(sheet, other, item) for item in thing]):
        return False
    if thing != tuple(sorted(set(thing))):
        return False
    shown = {pair: True for pair in thing}
    return (0, 0) in shown and all([pair_holds(sheet, other, pair, shown) for pair in thing])


def is_row_pair(sheet, other, thing):
    """Return whether a value is a pair of row numbers of two sheets."""
    return is_pair(thing) and is_index(thing[0], len(sheet)) and is_index(thing[1], len(other))


def pair_holds(sheet, other, pair, shown):
    """Return whether the rows of a pair have the same tag and the pairs of their fields are shown, too."""
    if not tags_agree(sheet, other, pair):
        return False
    return all([below in shown for below in field_pairs(sheet, other, pair)])


def tags_agree(sheet, other, pair):
    """Return whether the rows of a pair have the same tag."""
    row, match = pair
    return sheet[row][0] == other[match][0]


def field_pairs(sheet, other, pair):
    """Return the pairs of the fields of the rows of a pair, position by position."""
    row, match = pair
    return list(zip(sheet[row][1], other[match][1]))
