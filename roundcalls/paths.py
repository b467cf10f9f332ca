"""Paths: tuples of field numbers that lead from the root of a value to its nodes."""

from roundcalls.errors import NoPath
from roundcalls.kinds import is_index
from roundcalls.sheets import least_sheet, rooted


def row_below(sheet, row, field):
    """Return the row to which a field of a row leads, or None if it has no such field, whatever value that is."""
    fields = sheet[row][1]
    if not is_index(field, len(fields)):
        return None
    return fields[field]


def row_at(sheet, thing):
    """Return the row to which a path leads, or None for any value that is no path to a node."""
    if not isinstance(thing, tuple):
        return None
    row = 0
    for field in thing:
        row = row_below(sheet, row, field)
        if row is None:
            return None
    return row


def tag_at(sheet, path):
    """Return the tag at a path of a value; raise NoPath if it leads to no node."""
    row = row_at(sheet, path)
    if row is None:
        raise NoPath(path)
    return sheet[row][0]


def part_at(sheet, path):
    """Return the part at a path of a value; raise NoPath if it leads to no node."""
    least = least_sheet(sheet)
    row = row_at(least, path)
    if row is None:
        raise NoPath(path)
    return rooted(least, row)


def all_parts(sheet):
    """Return the different parts of a value, in the order of the rows of its least sheet."""
    least = least_sheet(sheet)
    return tuple([rooted(least, row) for row in range(len(least))])
