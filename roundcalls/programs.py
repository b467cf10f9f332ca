"""The form of programs, asked of values of any kind."""

from roundcalls.forms import MOST_NUMBER, MOST_PARAMS, MOST_RANK, SLOTS, SORTS, WORDS, parts_inside
from roundcalls.kinds import is_ascending, is_index, is_pair, is_row_of
from roundcalls.signatures import is_name, is_signature


def is_program(thing):
    """Return whether a value has the form of a program; it need not pass the checks."""
    if not is_pair(thing) or not is_signature(thing[0]):
        return False
    groups = thing[1]
    if not is_filled(groups) or not all([is_group(group) for group in groups]):
        return False
    names = [function[0] for _, functions in groups for function in functions]
    return are_distinct(names)


def is_filled(thing):
    """Return whether a value is a tuple of one or more items."""
    return isinstance(thing, tuple) and len(thing) > 0


def are_distinct(names):
    """Return whether no name stands twice among some names."""
    return len(set(names)) == len(names)


def is_group(thing):
    """Return whether a value is a pair of a sort and one or more functions of this sort."""
    if not is_pair(thing):
        return False
    sort, functions = thing
    if sort not in SORTS or not is_filled(functions):
        return False
    return all([is_function(sort, function) for function in functions])


def is_function(sort, thing):
    """Return whether a value is a function of a sort: a name, parameters, a rank and a body."""
    if not is_row_of(thing, 4):
        return False
    name, params, rank, body = thing
    if not is_name(name) or not are_names(params) or not 1 <= len(params) <= MOST_PARAMS:
        return False
    if not is_index(rank, MOST_RANK + 1 if sort == "test" else 1):
        return False
    return is_part(sort, body)


def are_names(thing):
    """Return whether a value is a tuple of distinct names."""
    return isinstance(thing, tuple) and all([is_name(name) for name in thing]) and are_distinct(thing)


def is_part(kind, thing):
    """Return whether a value is a term, a condition or a body of a sort, as the kind says."""
    # Parts wait in a list, so that it does not matter how deep they are inside one another.
    waiting = [(kind, thing)]
    while waiting:
        expected, part = waiting.pop()
        if not fits_word(expected, part):
            return False
        waiting.extend([(inner, item) for inner, _, item in parts_inside(expected, part)])
    return True


def fits_word(kind, thing):
    """Return whether a value has a word of a kind and items as that word needs, whatever the parts inside are."""
    if not is_filled(thing) or thing[0] not in WORDS[kind]:
        return False
    slots = SLOTS[thing[0]]
    if len(thing) != len(slots) + 1:
        return False
    return all([fits_slot(slot, item) for slot, item in zip(slots, thing[1:])])


def fits_slot(slot, thing):
    """Return whether a value may stand at a place behind a word, whatever the parts inside it are."""
    if slot in ("name", "tag"):
        return is_name(thing)
    if slot == "number":
        return is_index(thing, MOST_NUMBER + 1)
    if slot == "terms":
        return isinstance(thing, tuple)
    if slot == "branches":
        return are_branches(thing)
    return True


def are_branches(thing):
    """Return whether a value is a tuple of triples (tag, names, whatever it is), ascending by distinct tags."""
    if not isinstance(thing, tuple) or not all([is_branch(branch) for branch in thing]):
        return False
    return is_ascending([branch[0] for branch in thing])


def is_branch(thing):
    """Return whether a value is a triple of a tag, distinct names and whatever it is."""
    return is_row_of(thing, 3) and is_name(thing[0]) and are_names(thing[1])
