"""Plain and slow ways to tell what programs do, written from the document, to check the package against."""

from roundcalls.errors import UnknownName, UnknownTag, WrongCount, WrongPlace, WrongSort
from roundcalls.paths import part_at
from roundcalls.sheets import least_sheet

VOID = (("void", ()),)


def functions(program):
    """A dict from names to (sort, group, function)."""
    return {
        function[0]: (sort, group, function)
        for group, (sort, members) in enumerate(program[1]) for function in members
    }


class Run:
    """Settles and answers calls, whose arguments are least sheets."""

    def __init__(self, program):
        self.functions = functions(program)
        self.bodies = {}
        self.answers = {}

    def settle(self, call):
        if call not in self.bodies:
            name, arguments = call
            sort, group, (_, params, _, body) = self.functions[name]
            self.bodies[call] = self.body(sort, group, body, dict(zip(params, arguments)))
        return self.bodies[call]

    def body(self, sort, group, body, names):
        word = body[0]
        if word == "case":
            _, name, branches, other = body
            value = names[name]
            if value[0][0] == "void":
                return {"make": ("value", VOID), "test": ("no",), "gather": ("tags", ()), "measure": ("never",)}[sort]
            for tag, fields, inner in branches:
                if tag == value[0][0]:
                    known = {field: part_at(value, (at,)) for at, field in enumerate(fields)}
                    return self.body(sort, group, inner, {**names, **known})
            return self.body(sort, group, other, names)
        if word == "if":
            return self.body(sort, group, body[2] if self.condition(body[1], names) else body[3], names)
        if word in ("call", "ask", "take"):
            call = (body[1], tuple(self.term(term, names) for term in body[2]))
            if self.functions[body[1]][1] == group:
                return ("call",) + call
            answer = self.answer(call)
            if sort == "make":
                return ("value", answer)
            if sort == "test":
                return ("yes",) if answer else ("no",)
            if sort == "gather":
                return ("tags", answer)
            return ("never",) if answer is None else ("number", answer)
        if word == "part":
            return ("value", names[body[1]])
        if word == "tag":
            return ("tag", body[1], tuple(self.body(sort, group, term, names) for term in body[2]))
        if word == "none":
            return ("tags", ())
        if word == "one":
            return ("tags", (body[1],))
        if word == "root":
            tag = names[body[1]][0][0]
            return ("tags", () if tag == "void" else (tag,))
        if word in ("and", "or", "union", "least", "most"):
            return (word, self.body(sort, group, body[1], names), self.body(sort, group, body[2], names))
        if word == "plus":
            return ("plus", body[1], self.body(sort, group, body[2], names))
        return body

    def term(self, term, names):
        if term[0] == "part":
            return names[term[1]]
        values = [self.term(inner, names) for inner in term[2]]
        if term[0] == "call":
            return self.answer((term[1], tuple(values)))
        rows, roots = [], []
        for value in values:
            roots.append(len(rows) + 1)
            start = len(rows) + 1
            rows.extend((tag, tuple(field + start for field in fields)) for tag, fields in value)
        return least_sheet(((term[1], tuple(roots)), *rows))

    def condition(self, condition, names):
        word = condition[0]
        if word == "ask":
            return self.answer((condition[1], tuple(self.term(term, names) for term in condition[2])))
        if word == "same":
            return self.term(condition[1], names) == self.term(condition[2], names)
        if word == "is":
            return self.term(condition[1], names)[0][0] == condition[2]
        sides = [self.condition(side, names) for side in condition[1:]]
        return {"not": not sides[0], "both": all(sides), "either": any(sides)}[word]

    def needed(self, call):
        found = {call}
        waiting = [call]
        while waiting:
            for other in calls_in(self.settle(waiting.pop())):
                if other not in found:
                    found.add(other)
                    waiting.append(other)
        return found

    def answer(self, call):
        if call not in self.answers:
            sort = self.functions[call[0]][0]
            solve = {"make": self.made, "test": self.believed, "gather": self.stayed, "measure": self.stayed}[sort]
            self.answers[call] = solve(call)
        return self.answers[call]

    def unfolded(self, state):
        """The tag, and the settled bodies of the fields, of a settled body of a maker."""
        passed = set()
        while state[0] == "call":
            if state in passed:
                return "void", ()
            passed.add(state)
            state = self.settle(state[1:])
        if state[0] == "value":
            sheet = state[1]
            return sheet[0][0], tuple(("value", part_at(sheet, (at,))) for at in range(len(sheet[0][1])))
        return state[1], state[2]

    def made(self, call):
        states = [("call",) + call]
        rows = []
        while len(rows) < len(states):
            tag, fields = self.unfolded(states[len(rows)])
            for field in fields:
                if field not in states:
                    states.append(field)
            rows.append((tag, tuple(states.index(field) for field in fields)))
        return least_sheet(tuple(rows))

    def believed(self, call):
        """The nested fixed points of the ranks: even ones are greatest, odd ones least, the least rank outermost."""
        needed = sorted(self.needed(call))
        ranks = {other: self.functions[other[0]][2][2] for other in needed}
        levels = sorted(set(ranks.values()))
        bodies = {other: self.settle(other) for other in needed}

        def solve(at, sets):
            if at == len(levels):
                true = {other: other in sets[ranks[other]] for other in needed}
                return {other for other in needed if truth(bodies[other], true)}
            current = set(needed) if levels[at] % 2 == 0 else set()
            while True:
                found = solve(at + 1, {**sets, levels[at]: current})
                if found == current:
                    return found
                current = found

        return call in solve(0, {})

    def stayed(self, call):
        sort = self.functions[call[0]][0]
        needed = self.needed(call)
        run = {other: () if sort == "gather" else None for other in needed}
        while True:
            following = {other: came_to(self.settle(other), run) for other in needed}
            if following == run:
                return run[call]
            run = following


def calls_in(body):
    if body[0] == "call":
        return [body[1:]]
    if body[0] in ("value", "tags"):
        return []
    inner = body[2] if body[0] == "tag" else [item for item in body if isinstance(item, tuple)]
    return [call for item in inner for call in calls_in(item)]


def truth(body, true):
    if body[0] == "call":
        return true[body[1:]]
    if body[0] in ("yes", "no"):
        return body[0] == "yes"
    sides = [truth(body[1], true), truth(body[2], true)]
    return any(sides) if body[0] == "or" else all(sides)


def came_to(body, run):
    """What a settled body of a gatherer or a measure comes to with these runs of its calls."""
    word = body[0]
    if word == "call":
        return run[body[1:]]
    if word in ("tags", "number"):
        return body[1]
    if word == "never":
        return None
    if word == "plus":
        price = came_to(body[2], run)
        return None if price is None else body[1] + price
    first, second = came_to(body[1], run), came_to(body[2], run)
    if word == "union":
        return tuple(sorted({*first, *second}))
    if first is None or second is None:
        return None if word == "most" else second if first is None else first
    return max(first, second) if word == "most" else min(first, second)


def faults(program):
    """All errors of a program, (class, path), in the order of point 19; several of one part, too."""
    counts = dict(program[0])
    known = functions(program)
    found = []
    for group, (sort, members) in enumerate(program[1]):
        for at, (_, params, _, body) in enumerate(members):
            found.extend(faults_of_body(counts, known, (sort, group), body, (1, group, 1, at, 3), set(params)))
    return found


def faults_of_body(counts, known, home, body, path, names):
    word = body[0]
    found = []
    if word == "case":
        if body[1] not in names:
            found.append((UnknownName, path))
        for at, (tag, fields, inner) in enumerate(body[2]):
            place = path + (2, at)
            if tag not in counts:
                found.append((UnknownTag, place))
            elif counts[tag] != len(fields):
                found.append((WrongCount, place))
            found.extend(faults_of_body(counts, known, home, inner, place + (2,), names | set(fields)))
        return found + faults_of_body(counts, known, home, body[3], path + (3,), names)
    if word == "if":
        found.extend(faults_of_condition(counts, known, home, body[1], path + (1,), names))
        found.extend(faults_of_body(counts, known, home, body[2], path + (2,), names))
        return found + faults_of_body(counts, known, home, body[3], path + (3,), names)
    if word in ("part", "tag") or home[0] == "make":
        return faults_of_term(counts, known, home, body, path, names, True)
    if word in ("and", "or", "union", "least", "most"):
        found.extend(faults_of_body(counts, known, home, body[1], path + (1,), names))
        return found + faults_of_body(counts, known, home, body[2], path + (2,), names)
    if word == "plus":
        return faults_of_body(counts, known, home, body[2], path + (2,), names)
    if word == "root" and body[1] not in names:
        return [(UnknownName, path)]
    if word == "one" and body[1] not in counts and body[1] != "void":
        return [(UnknownTag, path)]
    if word not in ("call", "ask", "take"):
        return []
    for at, term in enumerate(body[2]):
        found.extend(faults_of_term(counts, known, home, term, path + (2, at), names, False))
    if body[1] not in known or known[body[1]][1] > home[1]:
        return found + [(UnknownName, path)]
    sort, group, function = known[body[1]]
    if len(function[1]) != len(body[2]):
        found.append((WrongCount, path))
    if sort != ("test" if word == "ask" else home[0]):
        found.append((WrongSort, path))
    if word == "call" and (group != home[1] or any(term[0] != "part" for term in body[2])):
        found.append((WrongPlace, path))
    if word != "call" and group == home[1]:
        found.append((WrongPlace, path))
    return found


def faults_of_term(counts, known, home, term, path, names, free):
    """The errors of a term; a free one may be a call of the own group."""
    if term[0] == "part":
        return [] if term[1] in names else [(UnknownName, path)]
    found = []
    for at, inner in enumerate(term[2]):
        free_inside = free and term[0] == "tag"
        found.extend(faults_of_term(counts, known, home, inner, path + (2, at), names, free_inside))
    if term[0] == "tag":
        if term[1] not in counts and term[1] != "void":
            found.append((UnknownTag, path))
        elif counts.get(term[1], 0) != len(term[2]):
            found.append((WrongCount, path))
        return found
    if term[1] not in known or known[term[1]][1] > home[1]:
        return found + [(UnknownName, path)]
    sort, group, function = known[term[1]]
    if len(function[1]) != len(term[2]):
        found.append((WrongCount, path))
    if sort != "make":
        found.append((WrongSort, path))
    if group == home[1] and (not free or any(inner[0] != "part" for inner in term[2])):
        found.append((WrongPlace, path))
    return found


def faults_of_condition(counts, known, home, condition, path, names):
    word = condition[0]
    found = []
    if word == "ask":
        for at, term in enumerate(condition[2]):
            found.extend(faults_of_term(counts, known, home, term, path + (2, at), names, False))
        if condition[1] not in known or known[condition[1]][1] > home[1]:
            return found + [(UnknownName, path)]
        sort, group, function = known[condition[1]]
        if len(function[1]) != len(condition[2]):
            found.append((WrongCount, path))
        if sort != "test":
            found.append((WrongSort, path))
        if group == home[1]:
            found.append((WrongPlace, path))
        return found
    if word in ("same", "is"):
        for at, term in enumerate(condition[1:], start=1):
            if isinstance(term, tuple):
                found.extend(faults_of_term(counts, known, home, term, path + (at,), names, False))
        if word == "is" and condition[2] not in counts and condition[2] != "void":
            found.append((UnknownTag, path))
        return found
    for at, side in enumerate(condition[1:], start=1):
        found.extend(faults_of_condition(counts, known, home, side, path + (at,), names))
    return found
