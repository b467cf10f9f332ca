"""Simple tests: what they ask for of values, tag by tag."""

from roundcalls.needs import own_needs

DEFAULTS = (("yes",), ("no",))


def is_simple(functions, name):
    """Return whether a function is a simple test: it and all tests of its group that it needs are written simply."""
    if functions[name].kind != "test":
        return False
    return all([is_written_simply(functions[other]) for other in own_needs(functions, name)])


def is_written_simply(function):
    """Return whether the body of a test is a case on its one parameter with simple bodies in the branches."""
    body = function.body
    if len(function.params) != 1 or body[0] != "case" or body[1] != function.params[0]:
        return False
    return body[3] in DEFAULTS and all([is_simple_body(inner, names) for _, names, inner in body[2]])


def is_simple_body(body, names):
    """Return whether a body is simple in a branch that binds some names."""
    if body in DEFAULTS:
        return True
    if body[0] == "call":
        return len(body[2]) == 1 and called_names(body)[0] in names
    if body[0] not in ("and", "or") or not all([is_simple_body(side, names) for side in body[1:]]):
        return False
    other = called_names(body[2])
    return body[0] == "or" or not any([name in other for name in called_names(body[1])])


def called_names(body):
    """Return the names with which a simple body calls, at any depth."""
    if body[0] == "call":
        return [body[2][0][1]]
    return [name for side in body[1:] for name in called_names(side)]


def alternatives_for(function, tag):
    """Return the alternatives of a simple test for a tag."""
    _, _, branches, default = function.body
    for branch_tag, names, body in branches:
        if branch_tag == tag:
            return tuple(sorted(alternatives_of(body, names)))
    return tuple(sorted(alternatives_of(default, ())))


def alternatives_of(body, names):
    """Return the different alternatives of a simple body in a branch that binds some names."""
    if body == ("yes",):
        return [()]
    if body == ("no",):
        return []
    if body[0] == "call":
        return [((names.index(body[2][0][1]), body[1]),)]
    first, second = [alternatives_of(side, names) for side in body[1:]]
    if body[0] == "or":
        return sorted(set(first + second))
    return sorted(set([tuple(sorted(one + other)) for one in first for other in second]))
