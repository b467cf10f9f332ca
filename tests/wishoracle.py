"""Simple tests as points 32 and 33 have them, written from the document in another way than in the package."""

import itertools

from tests.programoracle import functions


def needed(program, name):
    """The tests that a test needs by the text of the program, or None if it is not simple."""
    known = functions(program)
    sort, group, _ = known[name]
    if sort != "test":
        return None
    found, waiting = [], [name]
    while waiting:
        current = waiting.pop()
        if current not in found:
            found.append(current)
            called = simply_called(known[current][2])
            if called is None:
                return None
            waiting.extend(called)
    return sorted(found)


def simply_called(function):
    """The functions that the body of a test calls, or None if it is not of the form of a simple test."""
    _, params, _, body = function
    if len(params) != 1 or body[0] != "case" or body[1] != params[0] or body[3] not in (("yes",), ("no",)):
        return None
    called = []
    for _, names, inner in body[2]:
        pairs = simple_calls(inner, names)
        if pairs is None:
            return None
        called.extend(name for _, name in pairs)
    return called


def simple_calls(body, names):
    """The (name of a value, function) called in a simple body, or None."""
    if body in (("yes",), ("no",)):
        return []
    if body[0] == "call" and len(body[2]) == 1 and body[2][0][0] == "part" and body[2][0][1] in names:
        return [(body[2][0][1], body[1])]
    if body[0] not in ("and", "or"):
        return None
    sides = [simple_calls(side, names) for side in body[1:]]
    if None in sides:
        return None
    if body[0] == "and" and {name for name, _ in sides[0]} & {name for name, _ in sides[1]}:
        return None
    return sides[0] + sides[1]


def alternatives(program, name, tag):
    """The set of alternatives of a simple test for a tag, as frozen sets."""
    _, _, branches, default = functions(program)[name][2][3]
    for branch_tag, names, body in branches:
        if branch_tag == tag:
            return alternatives_of(body, names)
    return alternatives_of(default, ())


def alternatives_of(body, names):
    if body[0] == "yes":
        return {frozenset()}
    if body[0] == "no":
        return set()
    if body[0] == "call":
        return {frozenset([(names.index(body[2][0][1]), body[1])])}
    first, second = alternatives_of(body[1], names), alternatives_of(body[2], names)
    return first | second if body[0] == "or" else {one | other for one in first for other in second}


def choices(program, name):
    """All (tag, alternative) of a test, ascending."""
    return sorted((tag, tuple(sorted(found))) for tag, _ in program[0] for found in alternatives(program, name, tag))


def plans(program, name):
    """All values that come of one choice, or none, for each test that is needed."""
    tests = needed(program, name)
    counts = dict(program[0])
    for picked in itertools.product(*[choices(program, test) + [None] for test in tests]):
        if picked[tests.index(name)] is None:
            continue
        order = [name] + [test for test in tests if test != name]
        chosen = dict(zip(tests, picked))
        rows = []
        for test in order:
            if chosen[test] is None:
                rows.append(("void", ()))
                continue
            tag, alternative = chosen[test]
            looks = dict(alternative)
            fields = tuple(order.index(looks[at]) if at in looks else len(order) for at in range(counts[tag]))
            rows.append((tag, fields))
        yield tuple(rows) + (("void", ()),)


def rows_hold(program, name, thing):
    """Whether a value is correct rows for a simple test."""
    tests = needed(program, name)
    if not isinstance(thing, tuple):
        return False
    for row in thing:
        if not (isinstance(row, tuple) and len(row) == 3 and isinstance(row[0], str) and row[0] in tests):
            return False
        if not (isinstance(row[2], tuple) and len(row[2]) == 10):
            return False
        if not all(type(number) is int and number >= 0 for number in row[2]):
            return False
        expected = choices(program, row[0])
        if not (isinstance(row[1], tuple) and len(row[1]) == len(expected)):
            return False
        for pick, choice in zip(row[1], expected):
            if not (isinstance(pick, tuple) and len(pick) == 3 and repr(pick[:2]) == repr(choice)):
                return False
            if repr(pick[2]) not in [repr(pair) for pair in choice[1]]:
                return False
    names = [row[0] for row in thing]
    if names != sorted(set(names)) or name not in names:
        return False
    numbers = {row[0]: row[2] for row in thing}
    for test, picks, mine in thing:
        rank = functions(program)[test][2][2]
        places = range(0, rank + 1, 2)
        for _, _, (_, other) in picks:
            if other not in numbers:
                return False
            before, after = [mine[at] for at in places], [numbers[other][at] for at in places]
            if after > before or (rank % 2 == 0 and after == before):
                return False
    return True
