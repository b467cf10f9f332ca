"""How plain functions are by their text: what may stand in them, and in those of their group that they need."""

from roundcalls.forms import parts_inside, parts_of
from roundcalls.needs import own_needs

MOST_CASES = 2


def is_plain_maker(functions, name):
    """Return whether a function is a maker of which all that it needs have one parameter and call no earlier maker."""
    if functions[name].kind != "make":
        return False
    needed = own_needs(functions, name)
    return has_one_parameter_each(functions, needed) and not any([calls_earlier(functions, other) for other in needed])


def is_bare_maker(functions, name):
    """Return whether a function is a plain maker without ifs and without cases inside cases."""
    if not is_plain_maker(functions, name):
        return False
    return not any([has_words(functions[other], ("if",)) or cases_deep("make", functions[other].body) > 1
                    for other in own_needs(functions, name)])


def is_plain_user(functions, name):
    """Return whether a function is a test, gatherer or measure that looks only at one value, down to two cases."""
    kind = functions[name].kind
    needed = own_needs(functions, name)
    if kind == "make" or not has_one_parameter_each(functions, needed):
        return False
    return not any([has_words(functions[other], ("if", "ask", "take"))
                    or cases_deep(kind, functions[other].body) > MOST_CASES for other in needed])


def has_one_parameter_each(functions, names):
    """Return whether each of some functions has one parameter."""
    return all([len(functions[name].params) == 1 for name in names])


def calls_earlier(functions, name):
    """Return whether a function calls a function of another group, conditions included."""
    function = functions[name]
    calls = [part for part in parts_of(function.kind, function.body) if part[0] == "call"]
    return not all([functions[call[1]].group == function.group for call in calls])


def has_words(function, words):
    """Return whether a part with one of some words is in the body of a function."""
    return any([part[0] in words for part in parts_of(function.kind, function.body)])


def cases_deep(kind, part):
    """Return how many cases of a part are inside one another at most."""
    deepest = max([cases_deep(inner, item) for inner, _, item in parts_inside(kind, part)], default=0)
    return deepest + 1 if part[0] == "case" else deepest
