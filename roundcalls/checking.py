"""The checks that a program must pass before it is run."""

from roundcalls.errors import UnknownName, UnknownTag, WrongCount, WrongPlace, WrongSort
from roundcalls.forms import USES, parts_inside
from roundcalls.functions import functions_of
from roundcalls.signatures import VOID, field_counts


def check_program(program):
    """Raise the first error of a program, with the path of the part that has it; return None if there is none."""
    checker = Checker(program)
    for group, (sort, functions) in enumerate(program[1]):
        for at, (_, params, _, body) in enumerate(functions):
            checker.check_body(group, sort, body, (1, group, 1, at, 3), params)


class Checker:
    """Checks the parts of a program, in the order in which they are written."""

    def __init__(self, program):
        self._counts = field_counts(program[0])
        self._functions = functions_of(program)
        self._group = 0

    def check_body(self, group, sort, body, path, params):
        """Check the body of a function of a group."""
        self._group = group
        self._check(sort, body, path, params, False)

    def _check(self, kind, part, path, names, guarded):
        """Check a part, in which some names are known, and the parts inside it.

        It is guarded if it is inside an argument or a condition.
        """
        if part[0] == "case":
            self._check_case(kind, part, path, names)
            return
        inside = guarded or kind == "condition" or part[0] in USES
        for inner, steps, item in parts_inside(kind, part):
            self._check(inner, item, path + steps, names, inside)
        self._check_alone(kind, part, path, names, guarded)

    def _check_case(self, kind, part, path, names):
        """Check a case before everything inside it, and each branch before its body."""
        _, name, branches, other = part
        self._check_name(name, path, names)
        for at, (tag, fields, body) in enumerate(branches):
            place = path + (2, at)
            if tag == VOID or tag not in self._counts:
                raise UnknownTag(place)
            if len(fields) != self._counts[tag]:
                raise WrongCount(place)
            self._check(kind, body, place + (2,), names + fields, False)
        self._check(kind, other, path + (3,), names, False)

    def _check_alone(self, kind, part, path, names, guarded):
        """Check a part that is no case, without the parts inside it."""
        word = part[0]
        if word in ("part", "root"):
            self._check_name(part[1], path, names)
        elif word in ("is", "one"):
            self._check_tag(part[-1], path)
        elif word == "tag":
            self._check_tag(part[1], path)
            if len(part[2]) != self._counts[part[1]]:
                raise WrongCount(path)
        elif word in USES:
            self._check_use(kind, part, path, guarded)

    def _check_name(self, name, path, names):
        """Check that a name of a value is known."""
        if name not in names:
            raise UnknownName(path)

    def _check_tag(self, tag, path):
        """Check that a tag is known."""
        if tag not in self._counts:
            raise UnknownTag(path)

    def _check_use(self, kind, use, path, guarded):
        """Check a call, an ask or a take."""
        word, name, terms = use
        if name not in self._functions or self._functions[name].group > self._group:
            raise UnknownName(path)
        function = self._functions[name]
        if len(terms) != len(function.params):
            raise WrongCount(path)
        if function.kind != sort_used(kind, word):
            raise WrongSort(path)
        is_own = function.group == self._group
        if word != "call":
            misplaced = is_own
        elif is_own:
            misplaced = guarded or not all([term[0] == "part" for term in terms])
        else:
            misplaced = kind not in ("term", "make")
        if misplaced:
            raise WrongPlace(path)


def sort_used(kind, word):
    """Return the sort of the functions that a call, an ask or a take of a kind uses."""
    if word == "ask":
        return "test"
    return "make" if kind == "term" else kind
