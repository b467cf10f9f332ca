"""Functions that take what makers would make for a value straight from that value, without making it.

A user is a function with one parameter that is to take made values. Where a name of a user stands
for something, its source tells for what, given the value of a variable:
- ("raw",): the value itself,
- ("made", maker): what a maker makes of it,
- ("at", maker, path): what stands at the path, that of a tag, in the body of a maker for it.
"""

from roundcalls.forms import MOST_RANK, SLOTS, parts_of
from roundcalls.signatures import LETTERS, VOID

RAW = ("raw",)

# What a case on a value whose root is void comes to.
NOTHING = {"make": ("tag", VOID, ()), "test": ("no",), "gather": ("none",), "measure": ("never",)}

# The greatest rank is odd: it is against a walk that for ever follows a maker, and otherwise never the least.
FOLLOWING_RANK = MOST_RANK


class Rule:
    """A function with one parameter: its parameter, its rank and its body."""

    def __init__(self, param, rank, body):
        self.param = param
        self.rank = rank
        self.body = body


class Weaver:
    """Makes a group of functions of a sort, given dicts of rules for makers and for users, and the names taken.

    Each function is made for a task:
    - ("apply", user, source): a user applied to a source,
    - ("go on", user, place, maker, known): what a user comes to at a case on what a maker makes;
      known are (name, source, number of its variable) for the other names that are used there,
    - ("root", maker): the tag of what a maker makes,
    - ("value", maker): what a maker makes,
    - ("shown", source): what stands at the path of a source.
    """

    def __init__(self, kind, makers, users, taken):
        self.kind = kind
        self.makers = makers
        self.users = users
        self._taken = taken
        self._names = {}
        self._waiting = []
        self._tried = 0

    def woven(self, task):
        """Return (name, functions): the name of the function for a task, and this and all that it needs."""
        name = self.name_for(task)
        functions = []
        while self._waiting:
            functions.append(self._function(self._waiting.pop()))
        return name, tuple(functions)

    def name_for(self, task):
        """Return the name of the function for a task, a new one if there is none yet."""
        if task not in self._names:
            name = letters(self._tried)
            while name in self._taken:
                self._tried = self._tried + 1
                name = letters(self._tried)
            self._tried = self._tried + 1
            self._names[task] = name
            self._waiting.append(task)
        return self._names[task]

    def _function(self, task):
        """Return the function for a task."""
        params, body = Writer(self).written(task)
        return self._names[task], params, self._rank_for(task), body

    def _rank_for(self, task):
        """Return the rank of the function for a task."""
        if task[0] == "apply":
            return self.users[task[1]].rank
        return FOLLOWING_RANK if self.kind == "test" else 0


class Writer:
    """Writes one function of a weaver. A name of a user stands for (source, variable, scope) here.

    The scope, a dict from the names of the maker at the path of the source to variables, or
    None, tells what stands in the fields of that source.
    """

    def __init__(self, weaver):
        self._weaver = weaver
        self._kind = weaver.kind
        self._variables = 0

    def written(self, task):
        """Return the parameters and the body of the function for a task."""
        word = task[0]
        variable = self._fresh(1)[0]
        if word == "apply":
            return (variable,), self._applied(task[1], task[2], variable)
        if word == "shown":
            cases, scope = self._opened(task[1], variable)
            return (variable,), self._within(cases, self._term((task[1], variable, scope)))
        if word in ("root", "value"):
            return (variable,), self._followed(task[1], variable, (word,))
        _, user, place, maker, known = task
        others = self._fresh(len(set([number for _, _, number in known])))
        names = {name: (source, others[number], None) for name, source, number in known}
        return (variable,) + others, self._followed(maker, variable, (word, user, place, names))

    def _fresh(self, many):
        """Return a tuple of so many variables that stand nowhere else in the function."""
        first = self._variables
        self._variables = first + many
        return tuple([letters(number) for number in range(first, first + many)])

    def _applied(self, user, source, variable):
        """Return the body of a user for a source of a variable."""
        rule = self._weaver.users[user]
        if source[0] != "at":
            return self._body(user, (), {rule.param: (source, variable, None)})
        cases, scope = self._opened(source, variable)
        return self._within(cases, self._body(user, (), {rule.param: (source, variable, scope)}))

    def _within(self, cases, body):
        """Return a body inside some cases (variable, tag, fields)."""
        for variable, tag, fields in cases[::-1]:
            body = ("case", variable, ((tag, fields, body),), NOTHING[self._kind])
        return body

    def _opened(self, source, variable):
        """Return the cases (variable, tag, fields) on the way to a source in the body of its maker, and its scope."""
        _, maker, path = source
        rule = self._weaver.makers[maker]
        part, scope = rule.body, {rule.param: variable}
        cases = []
        passed = 0
        while part[0] in ("case", "if"):
            if part[0] == "case" and path[passed] == 2:
                tag, names, inner = part[2][path[passed + 1]]
                fields = self._fresh(len(names))
                cases.append((scope[part[1]], tag, fields))
                part, scope = inner, with_names(scope, names, fields)
                passed = passed + 3
            else:
                part = part[path[passed]]
                passed = passed + 1
        return cases, scope

    def _body(self, user, place, names):
        """Return what the part at a place of the body of a user comes to."""
        part = item_at(self._weaver.users[user].body, place)
        word = part[0]
        if word == "case":
            return self._case(user, place, names)
        if word == "call":
            return self._call(part[1], names[part[2][0][1]])
        if word == "root":
            return self._root(names[part[1]])
        if word == "part":
            return self._value(names[part[1]])
        if word == "tag":
            return word, part[1], tuple([self._body(user, place + (2, at), names) for at in range(len(part[2]))])
        items = [self._body(user, place + (at,), names) if isinstance(item, tuple) else item
                 for at, item in enumerate(part)]
        return tuple(items)

    def _case(self, user, place, names):
        """Return what the case at a place of the body of a user comes to."""
        _, name, branches, _ = item_at(self._weaver.users[user].body, place)
        source, variable, scope = names[name]
        if source[0] == "made":
            return self._go_on(user, place, names)
        if source == RAW:
            return self._raw_case(user, place, names)
        _, maker, path = source
        tag = item_at(self._weaver.makers[maker].body, path)[1]
        if tag == VOID:
            return NOTHING[self._kind]
        for number, (branch_tag, fields, _) in enumerate(branches):
            if branch_tag == tag:
                found = [self._found(maker, path + (2, at), variable, scope) for at in range(len(fields))]
                return self._body(user, place + (2, number, 2), with_names(names, fields, found))
        return self._body(user, place + (3,), names)

    def _raw_case(self, user, place, names):
        """Return a case, in place of that of a user, on a name that stands for the value of a variable."""
        _, name, branches, _ = item_at(self._weaver.users[user].body, place)
        written = []
        for number, (tag, fields, _) in enumerate(branches):
            variables = self._fresh(len(fields))
            known = with_names(names, fields, [(RAW, variable, None) for variable in variables])
            written.append((tag, variables, self._body(user, place + (2, number, 2), known)))
        return "case", names[name][1], tuple(written), self._body(user, place + (3,), names)

    def _go_on(self, user, place, names):
        """Return a call of the function for a case of a user on what a maker makes."""
        case = item_at(self._weaver.users[user].body, place)
        source, variable, _ = names[case[1]]
        used = [part[1] for part in parts_of(self._kind, case) if part[0] in ("part", "root", "case")]
        others = [name for name in sorted(set(used)) if name in names and name != case[1]]
        variables = list({names[name][1]: True for name in others})
        known = tuple([(name, names[name][0], variables.index(names[name][1])) for name in others])
        task = ("go on", user, place, source[1], known)
        return call_of(self._weaver.name_for(task), [variable] + variables)

    def _followed(self, maker, variable, goal):
        """Return the body of a maker for a variable, with what the goal asks for in the place of terms."""
        rule = self._weaver.makers[maker]
        return self._follow(maker, (), variable, {rule.param: variable}, goal)

    def _follow(self, maker, path, variable, scope, goal):
        """Return what a goal makes of the part at a path in the body of a maker, in which names are variables."""
        part = item_at(self._weaver.makers[maker].body, path)
        if part[0] == "if":
            sides = [self._follow(maker, path + (at,), variable, scope, goal) for at in (2, 3)]
            return "if", renamed(part[1], scope), sides[0], sides[1]
        if part[0] != "case":
            return self._reached(self._found(maker, path, variable, scope), goal)
        branches = []
        for number, (tag, names, _) in enumerate(part[2]):
            fields = self._fresh(len(names))
            known = with_names(scope, names, fields)
            body = self._follow(maker, path + (2, number, 2), variable, known, goal)
            branches.append((tag, fields, body))
        other = self._follow(maker, path + (3,), variable, scope, goal)
        return "case", scope[part[1]], tuple(branches), other

    def _reached(self, found, goal):
        """Return what a goal makes of what a maker comes to behind cases and conditions."""
        if goal[0] == "root":
            return self._root(found)
        if goal[0] == "value":
            return self._term(found)
        _, user, place, names = goal
        if found[0] == RAW and place == ():
            return self._use(user, found[1])
        name = item_at(self._weaver.users[user].body, place)[1]
        return self._case(user, place, with_names(names, (name,), (found,)))

    def _found(self, maker, path, variable, scope):
        """Return (source, variable, scope) for the term at a path in the body of a maker."""
        term = item_at(self._weaver.makers[maker].body, path)
        if term[0] == "part":
            return RAW, scope[term[1]], None
        if term[0] == "call":
            return ("made", term[1]), scope[term[2][0][1]], None
        return ("at", maker, path), variable, scope

    def _call(self, user, found):
        """Return a call of a user with what one of its names stands for."""
        source, variable, _ = found
        if source == RAW:
            return self._use(user, variable)
        return call_of(self._weaver.name_for(("apply", user, source)), [variable])

    def _use(self, user, variable):
        """Return a use of a user for the value of a variable; other than makers, it is of an earlier group."""
        if self._kind == "make":
            return call_of(self._weaver.name_for(("apply", user, RAW)), [variable])
        word = "ask" if self._kind == "test" else "take"
        return word, user, (("part", variable),)

    def _root(self, found):
        """Return the body of a gatherer for the tag of what a name stands for."""
        source, variable, _ = found
        if source == RAW:
            return "root", variable
        if source[0] == "made":
            return call_of(self._weaver.name_for(("root", source[1])), [variable])
        tag = item_at(self._weaver.makers[source[1]].body, source[2])[1]
        return ("none",) if tag == VOID else ("one", tag)

    def _value(self, found):
        """Return a term for what a name stands for."""
        source, variable, _ = found
        if source == RAW:
            return "part", variable
        if source[0] == "made":
            return call_of(self._weaver.name_for(("value", source[1])), [variable])
        _, tag, terms = item_at(self._weaver.makers[source[1]].body, source[2])
        # Greater terms are not written again and again: what is made by many makers would grow too much.
        return call_of(self._weaver.name_for(("shown", source)), [variable]) if terms else ("tag", tag, ())

    def _term(self, found):
        """Return the very term at the path of a source, or one for another source."""
        source, variable, scope = found
        if source[0] != "at":
            return self._value(found)
        _, maker, path = source
        _, tag, terms = item_at(self._weaver.makers[maker].body, path)
        fields = [self._found(maker, path + (2, at), variable, scope) for at in range(len(terms))]
        return "tag", tag, tuple([self._term(field) for field in fields])


def letters(number):
    """Return the name with a number: a, b, .., z, aa, ab, .."""
    name = LETTERS[number % len(LETTERS)]
    while number >= len(LETTERS):
        number = number // len(LETTERS) - 1
        name = LETTERS[number % len(LETTERS)] + name
    return name


def item_at(part, path):
    """Return the item of a tuple, and of the tuples in it, to which indexes lead."""
    for at in path:
        part = part[at]
    return part


def with_names(known, names, things):
    """Return a dict with what some more names stand for, or names that stand for something else now."""
    more = dict(known)
    for name, thing in zip(names, things):
        more[name] = thing
    return more


def call_of(name, variables):
    """Return a call of a function with some variables as arguments."""
    return "call", name, tuple([("part", variable) for variable in variables])


def renamed(part, scope):
    """Return a condition, or a term in it, with variables in the place of names."""
    if part[0] == "part":
        return "part", scope[part[1]]
    items = []
    for slot, item in zip(SLOTS[part[0]], part[1:]):
        if slot in ("term", "condition"):
            items.append(renamed(item, scope))
        elif slot == "terms":
            items.append(tuple([renamed(term, scope) for term in item]))
        else:
            items.append(item)
    return (part[0],) + tuple(items)
