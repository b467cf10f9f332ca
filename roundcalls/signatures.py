"""Names and signatures: the tags of values and how many fields they have."""

from roundcalls.kinds import is_ascending, is_index, is_pair

LETTERS = "abcdefghijklmnopqrstuvwxyz"
LONGEST_NAME = 8
MOST_FIELDS = 3
VOID = "void"


def is_name(thing):
    """Return whether a value is a string of one to eight letters a to z."""
    if not isinstance(thing, str) or not 1 <= len(thing) <= LONGEST_NAME:
        return False
    return all([letter in LETTERS for letter in thing])


def is_signature(thing):
    """Return whether a value is a tuple of pairs (tag, count), ascending by their tags."""
    if not isinstance(thing, tuple) or not all([is_tag_count(item) for item in thing]):
        return False
    return is_ascending([tag for tag, _ in thing])


def is_tag_count(thing):
    """Return whether a value is a pair of a tag that can be listed and a number of fields."""
    if not is_pair(thing):
        return False
    tag, count = thing
    return is_name(tag) and tag != VOID and is_index(count, MOST_FIELDS + 1)


def field_counts(signature):
    """Return a dict from each tag of a signature, void included, to its number of fields."""
    counts = {VOID: 0}
    for tag, count in signature:
        counts[tag] = count
    return counts
