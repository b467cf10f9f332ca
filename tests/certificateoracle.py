"""Certificates as points 25 to 27 have them, word by word, and certificates by another hand than the package's."""

from tests.programoracle import came_to


def is_integer(thing):
    return type(thing) is int and thing >= 0


def holds(run, call, thing):
    """Whether a value is a correct certificate for a call, given the runs of its program."""
    needed = run.needed(call)
    names = {repr(other): other for other in needed}
    check = {"test": test_holds, "gather": gather_holds, "measure": measure_holds}[run.functions[call[0]][0]]
    return check(run, call, thing, needed, names)


def test_holds(run, call, thing, needed, names):
    if not (isinstance(thing, tuple) and len(thing) == 2 and type(thing[0]) is bool and isinstance(thing[1], tuple)):
        return False
    answer, rows = thing
    for row in rows:
        if not (isinstance(row, tuple) and len(row) == 3 and repr(row[0]) in names and isinstance(row[1], tuple)):
            return False
        if not all(repr(other) in names for other in row[1]) or list(row[1]) != sorted(set(row[1])):
            return False
        if not (isinstance(row[2], tuple) and len(row[2]) == 10 and all(is_integer(number) for number in row[2])):
            return False
    calls = [row[0] for row in rows]
    if calls != sorted(set(calls)) or call not in calls:
        return False
    numbers = {row[0]: row[2] for row in rows}
    for mine, used, _ in rows:
        if any(other not in numbers for other in used):
            return False
        assumed = {other: answer if other in used else not answer for other in needed}
        if worth(run.settle(mine), assumed) != answer:
            return False
        rank = run.functions[mine[0]][2][2]
        for other in used:
            parity = 1 if answer else 0
            places = [place for place in range(rank + 1) if place % 2 == parity]
            mine_taken = [numbers[mine][place] for place in places]
            other_taken = [numbers[other][place] for place in places]
            if other_taken > mine_taken or (rank % 2 == parity and other_taken == mine_taken):
                return False
    return True


def worth(body, assumed):
    if body[0] == "call":
        return assumed[body[1:]]
    if body[0] in ("yes", "no"):
        return body[0] == "yes"
    sides = [worth(body[1], assumed), worth(body[2], assumed)]
    return any(sides) if body[0] == "or" else all(sides)


def rows_hold(thing, size, needed):
    if not isinstance(thing, tuple) or not all(isinstance(row, tuple) and len(row) == size for row in thing):
        return False
    return [repr(row[0]) for row in thing] == [repr(call) for call in sorted(needed)]


def gather_holds(run, call, thing, needed, names):
    if not rows_hold(thing, 2, needed):
        return False
    for _, tags in thing:
        if not isinstance(tags, tuple):
            return False
        for pair in tags:
            if not (isinstance(pair, tuple) and len(pair) == 2 and isinstance(pair[0], str) and is_integer(pair[1])):
                return False
        if [pair[0] for pair in tags] != sorted({pair[0] for pair in tags}):
            return False
    found = {mine: tags for mine, tags in thing}
    for mine, tags in thing:
        whole = {other: tuple(tag for tag, _ in found[other]) for other in needed}
        if came_to(run.settle(mine), whole) != whole[mine]:
            return False
        for tag, number in tags:
            lesser = {other: tuple(t for t, n in found[other] if n < number) for other in needed}
            if tag not in came_to(run.settle(mine), lesser):
                return False
    return True


def measure_holds(run, call, thing, needed, names):
    if not rows_hold(thing, 3, needed):
        return False
    if not all((price is None or is_integer(price)) and is_integer(number) for _, price, number in thing):
        return False
    prices = {mine: price for mine, price, _ in thing}
    numbers = {mine: number for mine, _, number in thing}
    for mine in prices:
        body = run.settle(mine)
        if came_to(body, prices) != prices[mine]:
            return False
        lesser = {other: prices[other] if numbers[other] < numbers[mine] else None for other in needed}
        if prices[mine] is not None and came_to(body, lesser) != prices[mine]:
            return False
    return True


def other_certificate(run, call):
    """A certificate by another hand."""
    return {"test": other_tested, "gather": other_gathered, "measure": other_priced}[
        run.functions[call[0]][0]](run, call)


def other_gathered(run, call):
    """The number of a tag is a multiple of the depth of the first run that has it."""
    needed = sorted(run.needed(call))
    current = {other: () for other in needed}
    found = {other: {} for other in needed}
    for depth in range(len(needed) * 14 + 1):
        current = {other: came_to(run.settle(other), current) for other in needed}
        for other in needed:
            for tag in current[other]:
                found[other].setdefault(tag, 3 * depth + 2)
    return tuple((other, tuple(sorted(found[other].items()))) for other in needed)


def other_priced(run, call):
    """In each round all calls are numbered whose prices are made of those numbered before."""
    needed = sorted(run.needed(call))
    final = {other: run.answer(other) for other in needed}
    numbers = {}
    for turn in range(len(needed)):
        known = {other: final[other] if other in numbers else None for other in needed}
        for other in needed:
            if other not in numbers and final[other] is not None:
                if came_to(run.settle(other), known) == final[other]:
                    numbers[other] = 5 + 2 * turn
    return tuple((other, final[other], numbers.get(other, 77)) for other in needed)


def other_tested(run, call):
    """The numbers are the least ones that fall, found by raising them again and again."""
    answer = run.answer(call)
    needed = run.needed(call)
    ranks = {other: run.functions[other[0]][2][2] for other in needed}
    parity = 1 if answer else 0
    most = [sum(ranks[other] == place for other in needed) for place in range(10)]
    choose = "or" if answer else "and"
    win = "yes" if answer else "no"
    marks = {other: (0,) * 10 for other in needed}

    def least_above(other, rank):
        """The least numbers that a call of a rank may have that uses another one, None if there are none."""
        mark = marks[other]
        if mark is None:
            return None
        taken = [mark[place] if place % 2 == parity and place <= rank else 0 for place in range(10)]
        if rank % 2 == parity:
            place = rank
            while place >= parity and taken[place] == most[place]:
                taken[place] = 0
                place -= 2
            if place < parity:
                return None
            taken[place] += 1
        return tuple(taken)

    def need(body, rank):
        """The least numbers for a settled body and the calls used, or None."""
        if body[0] == "call":
            mark = least_above(body[1:], rank)
            return None if mark is None else (mark, {body[1:]})
        if body[0] in ("yes", "no"):
            return ((0,) * 10, set()) if body[0] == win else None
        sides = [need(body[1], rank), need(body[2], rank)]
        if body[0] == choose:
            sides = [side for side in sides if side is not None]
            return min(sides, key=lambda side: side[0]) if sides else None
        if None in sides:
            return None
        return max(sides[0][0], sides[1][0]), sides[0][1] | sides[1][1]

    while True:
        raised = False
        for other in needed:
            if marks[other] is not None:
                found = need(run.settle(other), ranks[other])
                mark = None if found is None else found[0]
                if mark is None or mark > marks[other]:
                    marks[other] = mark
                    raised = True
        if not raised:
            break
    used = {other: sorted(need(run.settle(other), ranks[other])[1]) for other in needed if marks[other] is not None}
    return answer, tuple((other, tuple(used[other]), marks[other]) for other in sorted(used))
