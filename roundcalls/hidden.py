"""Hidden values: what their tops, and the tags at a few paths, tell of them."""

from itertools import combinations

from roundcalls.kinds import is_ascending, is_index, is_row_of
from roundcalls.paths import row_at
from roundcalls.sameness import parting_path
from roundcalls.sheets import least_sheet


def told_back(signature, n, top):
    """Return ("value", sheet) with the value of at most n different parts that has a top to depth 2 * n - 2.

    If there is none, return ("none", paths): n + 1 paths to nodes that part within the top.
    """
    kept = [((), top)]
    rows = []
    while len(rows) < len(kept) <= n:
        path, (tag, fields) = kept[len(rows)]
        rows.append((tag, tuple([kept_row(kept, path + (at,), node) for at, node in enumerate(fields)])))
    if len(kept) > n:
        return "none", tuple([path for path, _ in kept[:n + 1]])
    return "value", least_sheet(tuple(rows))


def kept_row(kept, path, node):
    """Return the number of a kept node from which a node does not part; if it parts from all, keep it, too.

    No node is met before one with a shorter path, so what is seen below a node is also
    seen below the one that is taken for it. Therefore the rows found have the given top.
    """
    for row, (_, other) in enumerate(kept):
        if node is None or not part_within(node, other):
            return row
    kept.append((path, node))
    return len(kept) - 1


def part_within(node, other):
    """Return whether some path leads from both nodes to nodes of the top whose tags differ."""
    waiting = [(node, other)]
    while waiting:
        (tag, fields), (other_tag, others) = waiting.pop()
        if tag != other_tag:
            return True
        waiting.extend([pair for pair in zip(fields, others) if None not in pair])
    return False


def untold_holds(signature, n, top, thing):
    """Return whether a value is n + 1 ascending paths of at most n steps to nodes that part within the top."""
    if not is_row_of(thing, n + 1):
        return False
    nodes = [node_at(top, path) for path in thing]
    if None in nodes or not all([len(path) <= n for path in thing]):
        return False
    if not is_ascending([(len(path), path) for path in thing]):
        return False
    return all([part_within(node, other) for node, other in combinations(nodes, 2)])


def node_at(top, thing):
    """Return the node of a top to which a path leads, or None for any value that is no path to a node."""
    if not isinstance(thing, tuple):
        return None
    node = top
    for field in thing:
        if not is_index(field, len(node[1])):
            return None
        node = node[1][field]
        if node is None:
            return None
    return node


def telling_paths(*sheets):
    """Return paths that tell the different ones of some values apart, fewer than there are different values."""
    paths = []
    groups = [list(sheets)]
    while groups:
        group = groups.pop()
        path = path_within(group)
        if path is not None:
            # Each path splits a group that stays undivided otherwise, so there are few of them.
            paths.append(path)
            groups = [piece for old in groups + [group] for piece in split_at(old, path)]
    return tuple(paths)


def path_within(group):
    """Return a path at which two values of a group part, or None if all are the same."""
    for sheet in group:
        path = parting_path(group[0], sheet)
        if path is not None:
            return path
    return None


def split_at(group, path):
    """Return lists of those values of a group that have the same tag, or no node, at a path."""
    pieces = {}
    for sheet in group:
        row = row_at(sheet, path)
        tag = None if row is None else sheet[row][0]
        pieces.setdefault(tag, []).append(sheet)
    return list(pieces.values())
