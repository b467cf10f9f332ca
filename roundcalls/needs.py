"""Which functions of a group need which others by the text of the program: those that they call, and so on."""

from roundcalls.forms import parts_of


def own_calls(functions, name):
    """Return the names of the functions of its own group that a function calls."""
    function = functions[name]
    found = {}
    for part in parts_of(function.kind, function.body):
        if part[0] == "call" and functions[part[1]].group == function.group:
            found[part[1]] = True
    return list(found)


def own_needs(functions, name):
    """Return the names of the functions of its own group that a function needs, itself first."""
    found = {}
    waiting = [name]
    while waiting:
        current = waiting.pop()
        if current not in found:
            found[current] = True
            waiting.extend(own_calls(functions, current))
    return list(found)


def knots(called):
    """Return lists of the names that need one another, given a dict from all names to those that each one calls."""
    users = {name: [] for name in called}
    for name in called:
        for other in called[name]:
            users[other].append(name)
    found = []
    met = {}
    # A name is met behind all that it needs, but for those that need it: so its users among them are its knot.
    for name in finishing_order(called)[::-1]:
        knot = []
        waiting = [name]
        while waiting:
            current = waiting.pop()
            if current not in met:
                met[current] = True
                knot.append(current)
                waiting.extend(users[current])
        if knot:
            found.append(knot)
    return found


def finishing_order(called):
    """Return the names in the order in which a depth-first walk along calls leaves them."""
    order = []
    met = {}
    waiting = [(name, False) for name in called]
    while waiting:
        name, is_left = waiting.pop()
        if is_left:
            order.append(name)
        elif name not in met:
            met[name] = True
            waiting.append((name, True))
            waiting.extend([(other, False) for other in called[name]])
    return order
