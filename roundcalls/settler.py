"""What bodies come to when their names stand for values and earlier functions for their answers."""

from roundcalls.forms import USES
from roundcalls.settledbodies import constant_body
from roundcalls.sheets import least_from, moved_rows, rooted
from roundcalls.signatures import VOID

# What a case on a value whose root is void comes to.
VOID_BODIES = {
    "make": ("value", (("void", ()),)),
    "test": ("no",),
    "gather": ("tags", ()),
    "measure": ("never",),
}


class Unanswered(Exception):
    """A body uses a call of an earlier function of which the answer is not known yet."""

    def __init__(self, call):
        self.call = call


class Settler:
    """Settles the bodies of calls, given the answers, in a dict by calls, of the calls of earlier groups."""

    def __init__(self, functions, answers):
        self._functions = functions
        self._answers = answers

    def settle_call(self, call):
        """Return the settled body of a call; raise Unanswered if it uses an earlier call without an answer."""
        name, arguments = call
        function = self._functions[name]
        return self._settle(function, function.body, dict(zip(function.params, arguments)))

    def _settle(self, function, body, names):
        """Return what a body, or a part of it, of a function comes to."""
        body, names = self._choose(body, names)
        if body is None:
            return VOID_BODIES[function.kind]
        word = body[0]
        if word in USES:
            return self._settle_use(function, body, names)
        if word == "part":
            return "value", names[body[1]]
        if word == "tag":
            return "tag", body[1], tuple([self._settle(function, term, names) for term in body[2]])
        if word in ("none", "one", "root"):
            return "tags", tags_of(body, names)
        return tuple([self._settle(function, item, names) if isinstance(item, tuple) else item for item in body])

    def _choose(self, body, names):
        """Return the body that counts behind cases and conditions, None for void, and the names known there."""
        while body[0] in ("case", "if"):
            if body[0] == "if":
                body = body[2] if self._holds(body[1], names) else body[3]
            else:
                _, name, branches, other = body
                sheet = names[name]
                if sheet[0][0] == VOID:
                    return None, names
                fields, body = branch_for(sheet[0][0], branches, other)
                names = with_fields(names, fields, sheet)
        return body, names

    def _settle_use(self, function, use, names):
        """Return what a use of a function as a body comes to: only calls of the own group stay."""
        _, name, terms = use
        call = (name, self._values(terms, names))
        user = self._functions[name]
        if user.group == function.group:
            return ("call",) + call
        return constant_body(user.kind, self._answer(call))

    def _answer(self, call):
        """Return the answer of a call of an earlier function."""
        if call not in self._answers:
            raise Unanswered(call)
        return self._answers[call]

    def _values(self, terms, names):
        """Return the values of some terms."""
        return tuple([self._value(term, names) for term in terms])

    def _value(self, term, names):
        """Return the value of a term that has no call of the own group."""
        if term[0] == "part":
            return names[term[1]]
        values = self._values(term[2], names)
        if term[0] == "tag":
            return node(term[1], values)
        return self._answer((term[1], values))

    def _holds(self, condition, names):
        """Return whether a condition holds."""
        word = condition[0]
        if word == "ask":
            return self._answer((condition[1], self._values(condition[2], names)))
        if word == "same":
            return self._value(condition[1], names) == self._value(condition[2], names)
        if word == "is":
            return self._value(condition[1], names)[0][0] == condition[2]
        first = self._holds(condition[1], names)
        if word == "not":
            return not first
        if first == (word == "either"):
            return first
        return self._holds(condition[2], names)


def tags_of(body, names):
    """Return the tags of a gatherer's body for no tag, a tag, or the tag at the root of a value."""
    if body[0] == "none":
        return ()
    if body[0] == "one":
        return (body[1],)
    tag = names[body[1]][0][0]
    return () if tag == VOID else (tag,)


def branch_for(tag, branches, other):
    """Return the names and the body of the branch for a tag; no names and the other body if there is none."""
    for branch_tag, fields, body in branches:
        if branch_tag == tag:
            return fields, body
    return (), other


def with_fields(names, fields, sheet):
    """Return the names and, hiding those of them that are called alike, the names of the fields of a value."""
    known = dict(names)
    for name, row in zip(fields, sheet[0][1]):
        known[name] = rooted(sheet, row)
    return known


def node(tag, values):
    """Return the value with a tag at its root and these values as its fields."""
    rows = [(tag, ())]
    roots = []
    for sheet in values:
        roots.append(len(rows))
        rows.extend(moved_rows(sheet, len(rows)))
    rows[0] = (tag, tuple(roots))
    return least_from(rows, 0)
