"""The answers of gatherers: all tags that the calls they need come to."""

from roundcalls.settledbodies import callers, leaves


def gathered(system):
    """Return the ascending tuple of tags of each call of a system of gatherers."""
    return [tuple(sorted(tags)) for tags in numbered_tags(system)]


def numbered_tags(system):
    """Return, for each call of a system of gatherers, a dict from its tags to numbers.

    A tag has number 0 where it stands in the body, otherwise a greater one than in some call there.
    """
    found = [{} for _ in system]
    users = callers(system)
    level = [(call, tag) for call, body in enumerate(system) for tag in tags_in(body)]
    number = 0
    while level:
        following = []
        for call, tag in level:
            if tag not in found[call]:
                found[call][tag] = number
                following.extend([(user, tag) for user in users[call]])
        level = following
        number = number + 1
    return found


def tags_in(body):
    """Return the tags in a settled body of a gatherer, calls left out."""
    return [tag for leaf in leaves(body) if leaf[0] == "tags" for tag in leaf[1]]


def tags_with(body, found):
    """Return the ascending tuple of tags to which a settled body comes, given those of its calls."""
    tags = tags_in(body)
    for leaf in leaves(body):
        if leaf[0] == "call":
            tags.extend(found[leaf[1]])
    return tuple(sorted(set(tags)))
