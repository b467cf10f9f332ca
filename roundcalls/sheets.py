"""Sheets: tuples of rows (tag, fields) that write finite and infinite values."""

from roundcalls.kinds import is_index, is_pair
from roundcalls.refining import row_classes, rows_above
from roundcalls.signatures import field_counts


def is_sheet(signature, thing):
    """Return whether a value is a sheet of the signature."""
    if not isinstance(thing, tuple) or len(thing) == 0:
        return False
    counts = field_counts(signature)
    return all([is_row(counts, len(thing), row) for row in thing])


def is_row(counts, size, thing):
    """Return whether a value is a row of a sheet with so many rows, given the tags' numbers of fields."""
    if not is_pair(thing):
        return False
    tag, fields = thing
    if not isinstance(tag, str) or tag not in counts:
        return False
    if not isinstance(fields, tuple) or len(fields) != counts[tag]:
        return False
    return all([is_index(field, size) for field in fields])


def least_sheet(sheet):
    """Return the least sheet of a value."""
    return least_from(sheet, 0)


def least_from(rows, root):
    """Return the least sheet of the value whose root is the row of this number."""
    merged, classes = merged_rows(rows)
    return rooted(merged, classes[root])


def merged_rows(rows):
    """Return a dict of rows by number, no two of which write the same value, and the new number of each row."""
    classes = row_classes(rows)
    merged = {}
    for number, (tag, fields) in zip(classes, rows):
        merged[number] = (tag, tuple([classes[field] for field in fields]))
    return merged, classes


def moved_rows(sheet, offset):
    """Return the rows of a sheet as a list, for a place behind so many other rows."""
    return [(tag, tuple([field + offset for field in fields])) for tag, fields in sheet]


def rooted(rows, root):
    """Return a sheet of the rows that a root reaches, numbered in the order of a depth-first walk.

    The rows are a tuple, or a dict by their numbers. If no two of them write the
    same value, the sheet is the least one.
    """
    numbers = {}
    waiting = [root]
    while waiting:
        row = waiting.pop()
        if row not in numbers:
            numbers[row] = len(numbers)
            waiting.extend(rows[row][1][::-1])
    return tuple([renumbered(rows[row], numbers) for row in numbers])


def renumbered(row, numbers):
    """Return a row whose fields have their new numbers."""
    tag, fields = row
    return tag, tuple([numbers[field] for field in fields])


def part_count(sheet):
    """Return the number of different parts of a value."""
    return len(least_sheet(sheet))


def node_count(sheet):
    """Return the number of nodes of a value, or None if it is infinite."""
    above = rows_above(sheet)
    missing = [len(fields) for _, fields in sheet]
    ready = [row for row, fields in enumerate(missing) if fields == 0]
    counts = {}
    while ready:
        row = ready.pop()
        counts[row] = 1 + sum([counts[field] for field in sheet[row][1]])
        for uppers in above:
            for upper in uppers[row]:
                missing[upper] -= 1
                if missing[upper] == 0:
                    ready.append(upper)
    # A row on a loop, or above one, is never ready.
    return counts.get(0)
