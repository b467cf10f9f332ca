"""Settled bodies: the calls in them, and systems of settled bodies that call one another by number."""

# The items of these are values and tags, not settled bodies.
CONSTANTS = ("value", "tags")


def constant_body(kind, answer):
    """Return the settled body to which a use of a function of a sort comes that has an answer."""
    if kind == "make":
        return "value", answer
    if kind == "test":
        return ("yes",) if answer else ("no",)
    if kind == "gather":
        return "tags", answer
    return ("never",) if answer is None else ("number", answer)


def bodies_inside(body):
    """Return the settled bodies right inside a settled body."""
    if body[0] == "tag":
        return body[2]
    if body[0] == "call" or body[0] in CONSTANTS:
        return ()
    return tuple([item for item in body[1:] if isinstance(item, tuple)])


def leaves(body):
    """Return the settled bodies inside a settled body, or itself, that have none inside them."""
    found = []
    waiting = [body]
    while waiting:
        current = waiting.pop()
        inside = bodies_inside(current)
        if inside:
            waiting.extend(inside)
        else:
            found.append(current)
    return found


def calls_in(body):
    """Return the calls in a settled body."""
    return [leaf[1:] for leaf in leaves(body) if leaf[0] == "call"]


def numbered(body, numbers):
    """Return a settled body in which each call has its number: ("call", number)."""
    if body[0] == "call":
        return "call", numbers[body[1:]]
    if body[0] in CONSTANTS:
        return body
    if body[0] == "tag":
        return "tag", body[1], tuple([numbered(inner, numbers) for inner in body[2]])
    return tuple([numbered(item, numbers) if isinstance(item, tuple) else item for item in body])


def system_of(bodies, calls):
    """Return the system of the settled bodies of some calls, numbered in their order, given a dict of the bodies."""
    numbers = {call: number for number, call in enumerate(calls)}
    return [numbered(bodies[call], numbers) for call in calls]


def callers(system):
    """Return, for each number of a call in a system of settled bodies, a list of those whose bodies have it."""
    found = [{} for _ in system]
    for number, body in enumerate(system):
        for leaf in leaves(body):
            if leaf[0] == "call":
                found[leaf[1]][number] = True
    return [list(numbers) for numbers in found]
