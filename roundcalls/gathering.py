"""The answers of gatherers: all tags that the calls they need come to."""

from roundcalls.settledbodies import callers, leaves


def gathered(system):
    """Return the ascending tuple of tags of each call of a system of gatherers."""
    found = [{} for _ in system]
    users = callers(system)
    waiting = [(number, tag) for number, body in enumerate(system) for tag in tags_in(body)]
    while waiting:
        number, tag = waiting.pop()
        if tag not in found[number]:
            found[number][tag] = True
            waiting.extend([(user, tag) for user in users[number]])
    return [tuple(sorted(tags)) for tags in found]


def tags_in(body):
    """Return the tags in a settled body of a gatherer, calls left out."""
    return [tag for leaf in leaves(body) if leaf[0] == "tags" for tag in leaf[1]]
