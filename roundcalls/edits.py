"""Edits: values that have other parts, or other tags, than a given one."""

from roundcalls.errors import NoPath
from roundcalls.paths import all_parts, row_at
from roundcalls.sheets import least_from, least_sheet, moved_rows


def replace_at(sheet, path, other):
    """Return the value with another value at a path; raise NoPath if the path leads to no node."""
    if row_at(sheet, path) is None:
        raise NoPath(path)
    rows = list(sheet) + moved_rows(other, len(sheet))
    root = len(sheet)
    # The nodes above the path get rows of their own: elsewhere the same parts stay as they are.
    for row, field in reversed(list(zip(rows_passed(sheet, path), path))):
        tag, fields = sheet[row]
        rows.append((tag, fields[:field] + (root,) + fields[field + 1:]))
        root = len(rows) - 1
    return least_from(rows, root)


def rows_passed(sheet, path):
    """Return the rows of the nodes that a path passes, from the root on, without the one to which it leads."""
    passed = []
    row = 0
    for field in path:
        passed.append(row)
        row = sheet[row][1][field]
    return passed


def replace_everywhere(sheet, part, other):
    """Return the value in which another value stands wherever it had a part that is the same as the given one."""
    least, replaced = least_sheet(sheet), least_sheet(part)
    places = [found == replaced for found in all_parts(least)]
    # The other value comes with rows of its own, in which nothing is replaced.
    root = len(least)
    rows = [(tag, tuple([root if places[field] else field for field in fields])) for tag, fields in least]
    return least_from(rows + moved_rows(other, root), root if places[0] else 0)


def rename_tags(sheet, **tags):
    """Return the value in which each tag that is given by name is replaced by the tag that is its value."""
    return least_sheet([(tags.get(tag, tag), fields) for tag, fields in sheet])
