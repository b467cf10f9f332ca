"""Programs made from programs: functions for made values that are not made, and makers in the place of several."""

from roundcalls.errors import NotPlain
from roundcalls.functions import check_known, functions_of
from roundcalls.needs import own_needs
from roundcalls.plainness import is_bare_maker, is_plain_maker, is_plain_user
from roundcalls.weaving import Rule, Weaver


def led_back(program, maker, function):
    """Return (program, name) with a function that answers as another one does for what a plain maker makes.

    Raise UnknownFunction, or NotPlain for a maker or a function that is not plain.
    """
    functions = functions_of(program)
    check_known(functions, maker)
    check_known(functions, function)
    if not is_plain_maker(functions, maker):
        raise NotPlain(maker)
    if not is_plain_user(functions, function):
        raise NotPlain(function)
    sort = functions[function].kind
    weaver = Weaver(sort, rules_needed(functions, maker), rules_needed(functions, function), functions)
    name, members = weaver.woven(("apply", function, ("made", maker)))
    return with_group(program, sort, members), name


def joined(program, first, *others):
    """Return (program, name) with a maker that makes what several make, each of what the one before makes.

    Raise UnknownFunction, or NotPlain if the first one is not plain or another one is not bare.
    """
    functions = functions_of(program)
    for name in (first,) + others:
        check_known(functions, name)
    if not is_plain_maker(functions, first):
        raise NotPlain(first)
    for name in others:
        if not is_bare_maker(functions, name):
            raise NotPlain(name)
    told, members = Weaver("make", rules_needed(functions, first), {}, functions).woven(("value", first))
    for name in others:
        weaver = Weaver("make", rules_of(members), rules_needed(functions, name), functions)
        told, members = weaver.woven(("apply", name, ("made", told)))
    return with_group(program, "make", members), told


def rules_needed(functions, name):
    """Return a dict with the rules of the functions of its group that a function needs, itself included."""
    needed = [functions[other] for other in own_needs(functions, name)]
    return {function.name: Rule(function.params[0], function.rank, function.body) for function in needed}


def rules_of(members):
    """Return a dict with the rules of the functions of a group, all with one parameter."""
    return {name: Rule(params[0], rank, body) for name, params, rank, body in members}


def with_group(program, sort, functions):
    """Return the program with one more group at its end."""
    signature, groups = program
    return signature, groups + ((sort, functions),)
