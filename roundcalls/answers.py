"""The answers of calls, found group by group as they are needed."""

from roundcalls.functions import functions_of, least_call
from roundcalls.games import believed
from roundcalls.gathering import gathered
from roundcalls.making import made_rows
from roundcalls.measuring import priced
from roundcalls.settledbodies import calls_in, constant_body, numbered
from roundcalls.settler import Settler, Unanswered
from roundcalls.sheets import rooted


class Answers:
    """Settled bodies and answers of the calls of a program, each kept when it has been found.

    Calls have least sheets as arguments.
    """

    def __init__(self, program):
        self._functions = functions_of(program)
        self._known = {}
        self._made = {}
        self._bodies = {}
        self._settler = Settler(self._functions, self._known)

    def checked_call(self, name, arguments):
        """Return a call with least sheets as arguments; raise UnknownFunction or WrongArguments if it is none."""
        return least_call(self._functions, name, arguments)

    def settled_body(self, call):
        """Return the settled body of a call."""
        while call not in self._bodies:
            # The missing answers are found here, not inside the body, so that however deep
            # bodies are, no great depth of calls is reached through many groups.
            try:
                self._bodies[call] = self._settler.settle_call(call)
            except Unanswered as missing:
                self.answer_of(missing.call)
        return self._bodies[call]

    def answer_of(self, call):
        """Return the answer of a call."""
        if not self._is_solved(call):
            self._solve(call)
        if call not in self._known:
            rows, root = self._made[call]
            self._known[call] = rooted(rows, root)
        return self._known[call]

    def needed_bodies(self, call):
        """Return a dict from the calls that a call needs to their settled bodies."""
        return self._collect(call, False)

    def _is_solved(self, call):
        """Return whether a call has been among those that were solved together."""
        return call in self._known or call in self._made

    def _collect(self, call, short):
        """Return a dict from the calls that a call needs to their settled bodies.

        If it is to be short, solved calls come to their answers and need no others.
        """
        bodies = {}
        waiting = [call]
        while waiting:
            current = waiting.pop()
            if current not in bodies:
                bodies[current] = self._short_body(current) if short else self.settled_body(current)
                waiting.extend(calls_in(bodies[current]))
        return bodies

    def _short_body(self, call):
        """Return the settled body of a call, or, if it is solved, one that comes to its answer."""
        if self._is_solved(call):
            return constant_body(self._functions[call[0]].kind, self.answer_of(call))
        return self.settled_body(call)

    def _solve(self, call):
        """Find the answers of a call and of all calls that it needs."""
        bodies = self._collect(call, True)
        calls = list(bodies)
        numbers = {needed: number for number, needed in enumerate(calls)}
        system = [numbered(bodies[needed], numbers) for needed in calls]
        if self._functions[call[0]].kind == "make":
            rows, roots = made_rows(system)
            # The sheet of each value is written only when it is asked for: there may be many great ones.
            for needed, root in zip(calls, roots):
                self._made[needed] = (rows, root)
        else:
            for needed, answer in zip(calls, self._answers_of(calls, system)):
                self._known[needed] = answer

    def _answers_of(self, calls, system):
        """Return the answers of calls of tests, gatherers or measures, given the system of their settled bodies."""
        function = self._functions[calls[0][0]]
        if function.kind == "test":
            return believed(system, [self._functions[name].rank for name, _ in calls])
        if function.kind == "gather":
            return gathered(system)
        return priced(system)
