"""Tops: what can be seen of values down to a depth, as finite trees."""

from roundcalls.kinds import is_pair
from roundcalls.signatures import field_counts


def top(sheet, depth):
    """Return the top of a value to a depth: pairs (tag, tops of the fields), None where a node is deeper."""
    tops = [None for _ in sheet]
    for _ in range(depth + 1):
        tops = tops_of_rows(sheet, tops)
    return tops[0]


def tops_of_rows(sheet, below):
    """Return the tops of the parts of all rows, to a depth greater by one than that of the given ones.

    Those to the depth 0 come from None for each row.
    """
    return [(tag, tuple([below[field] for field in fields])) for tag, fields in sheet]


def is_top(signature, depth, thing):
    """Return whether a value is the top to a depth of some value of the signature."""
    counts = field_counts(signature)
    level = [thing]
    for _ in range(depth + 1):
        if not all([is_node(counts, node) for node in level]):
            return False
        level = [field for _, fields in level for field in fields]
    return all([node is None for node in level])


def is_node(counts, thing):
    """Return whether a value is a pair of a tag and as many fields, of whatever kind, as the tag has."""
    if not is_pair(thing):
        return False
    tag, fields = thing
    if not isinstance(tag, str) or tag not in counts:
        return False
    return isinstance(fields, tuple) and len(fields) == counts[tag]
