"""Programs with the same answers: with smaller groups, or with fewer ranks."""

from heapq import heapify, heappop, heappush

from roundcalls.forms import SLOTS
from roundcalls.functions import functions_of
from roundcalls.needs import knots, own_calls

# The word of a use of a function of an earlier group as a body, for each sort.
EARLIER_USES = {"make": "call", "test": "ask", "gather": "take", "measure": "take"}


def split_groups(program):
    """Return the program with each group replaced by groups of functions that need one another."""
    signature, groups = program
    functions = functions_of(program)
    split = []
    for sort, members in groups:
        called = {function[0]: own_calls(functions, function[0]) for function in members}
        for names in ordered_knots(called):
            known = {name: True for name in names}
            own = [function for function in members if function[0] in known]
            split.append((sort, tuple([with_uses(sort, function, known) for function in own])))
    return signature, tuple(split)


def ordered_knots(called):
    """Return the lists of names that need one another, each behind those that it uses.

    Of those that may come next, the one that has the earliest of all names comes first.
    """
    places = {name: place for place, name in enumerate(called)}
    found = {}
    knot_of = {}
    for names in knots(called):
        first = min([places[name] for name in names])
        found[first] = names
        for name in names:
            knot_of[name] = first
    used = {first: {knot_of[other]: True for one in found[first] for other in called[one]} for first in found}
    return [found[first] for first in ordered_by_use(used)]


def ordered_by_use(used):
    """Return numbers in such an order that each one stands behind those that it uses, lesser ones first."""
    users = {number: [] for number in used}
    missing = {number: 0 for number in used}
    for number in used:
        for other in used[number]:
            if other != number:
                users[other].append(number)
                missing[number] += 1
    ready = [number for number in used if missing[number] == 0]
    heapify(ready)
    order = []
    while ready:
        number = heappop(ready)
        order.append(number)
        for user in users[number]:
            missing[user] -= 1
            if missing[user] == 0:
                heappush(ready, user)
    return order


def with_uses(sort, function, names):
    """Return a function of a sort in which only the functions with some names are called as of its own group."""
    name, params, rank, body = function
    return name, params, rank, with_word(body, names, EARLIER_USES[sort])


def with_word(body, names, word):
    """Return a body in which the calls as bodies of functions that are not among some names have another word."""
    if body[0] == "call":
        return body if body[1] in names else (word,) + body[1:]
    items = []
    for slot, item in zip(SLOTS[body[0]], body[1:]):
        if slot == "body":
            items.append(with_word(item, names, word))
        elif slot == "branches":
            items.append(tuple([(tag, fields, with_word(inner, names, word)) for tag, fields, inner in item]))
        else:
            items.append(item)
    return (body[0],) + tuple(items)


def press_ranks(program):
    """Return the program with the ranks of each group of tests as small as their order and evenness let them be."""
    signature, groups = program
    return signature, tuple([(sort, pressed(functions)) for sort, functions in groups])


def pressed(functions):
    """Return the functions of a group with their new ranks; all ranks other than of tests are 0."""
    new_ranks = {}
    last = 0
    for rank in sorted(set([rank for _, _, rank, _ in functions])):
        if (rank - last) % 2 != 0:
            last = last + 1
        new_ranks[rank] = last
    return tuple([(name, params, new_ranks[rank], body) for name, params, rank, body in functions])
