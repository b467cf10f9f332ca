"""The answers of calls, found group by group as they are needed."""

from roundcalls.functions import functions_of, is_call, least_call
from roundcalls.games import believed
from roundcalls.gathering import gathered
from roundcalls.making import made_rows
from roundcalls.measuring import priced
from roundcalls.settledbodies import calls_in, constant_body, system_of
from roundcalls.settler import Settler, Unanswered
from roundcalls.sheets import rooted


class Answers:
    """Settled bodies and answers of the calls of a program, each kept when it has been found.

    Calls have least sheets as arguments.
    """

    def __init__(self, program):
        self._signature = program[0]
        self._functions = functions_of(program)
        self._known = {}
        self._made = {}
        self._bodies = {}
        self._settler = Settler(self._functions, self._known)

    def checked_call(self, name, arguments):
        """Return a call with least sheets as arguments; raise UnknownFunction or WrongArguments if it is none."""
        return least_call(self._functions, name, arguments)

    def is_call(self, thing):
        """Return whether a value is a call, whatever sheets its arguments have."""
        return is_call(self._signature, self._functions, thing)

    def kind_of(self, call):
        """Return the sort of the function of a call."""
        return self._functions[call[0]].kind

    def rank_of(self, call):
        """Return the rank of the function of a call."""
        return self._functions[call[0]].rank

    def settled_body(self, call):
        """Return the settled body of a call."""
        missing = self._settle(call)
        while missing is not None:
            self.answer_of(missing)
            missing = self._settle(call)
        return self._bodies[call]

    def answer_of(self, call):
        """Return the answer of a call."""
        # The calls that are collected for answers wait in a list, those of earlier groups behind those
        # that use them: so however many groups there are, no great depth of calls is reached.
        collections = [] if self._is_known(call) else [Collection(call)]
        while collections:
            missing = self._collect(collections[-1])
            if missing is None:
                self._solve(collections.pop())
            else:
                collections.append(Collection(missing))
        self._is_known(call)
        return self._known[call]

    def needed_bodies(self, call):
        """Return a dict from the calls that a call needs to their settled bodies."""
        bodies = {}
        waiting = [call]
        while waiting:
            current = waiting.pop()
            if current not in bodies:
                bodies[current] = self.settled_body(current)
                waiting.extend(calls_in(bodies[current]))
        return bodies

    def needed_system(self, call):
        """Return (calls, system): the calls that a call needs, ascending, and the system of their settled bodies."""
        bodies = self.needed_bodies(call)
        calls = sorted(bodies)
        return calls, system_of(bodies, calls)

    def _is_known(self, call):
        """Return whether the answer of a call is known, writing it down if it is that of a maker."""
        if call in self._made:
            rows, root = self._made.pop(call)
            self._known[call] = rooted(rows, root)
        return call in self._known

    def _settle(self, call):
        """Find the settled body of a call; return None, or an earlier call the answer of which is missing."""
        while call not in self._bodies:
            try:
                self._bodies[call] = self._settler.settle_call(call)
            except Unanswered as missing:
                if not self._is_known(missing.call):
                    return missing.call
        return None

    def _collect(self, collection):
        """Add the calls that those of a collection need, until a call of known answer is met.

        Return None, or an earlier call the answer of which is missing.
        """
        bodies, waiting = collection.bodies, collection.waiting
        while waiting:
            call = waiting[-1]
            if call not in bodies:
                if self._is_known(call):
                    bodies[call] = constant_body(self.kind_of(call), self._known[call])
                else:
                    missing = self._settle(call)
                    if missing is not None:
                        return missing
                    bodies[call] = self._bodies[call]
            waiting.pop()
            waiting.extend([needed for needed in calls_in(bodies[call]) if needed not in bodies])
        return None

    def _solve(self, collection):
        """Find the answers of the calls of a collection."""
        calls = list(collection.bodies)
        system = system_of(collection.bodies, calls)
        if self.kind_of(calls[0]) == "make":
            rows, roots = made_rows(system)
            # The sheet of each value is written only when it is asked for: there may be many great ones.
            for needed, root in zip(calls, roots):
                self._made[needed] = (rows, root)
        else:
            for needed, answer in zip(calls, self._answers_of(calls, system)):
                self._known[needed] = answer

    def _answers_of(self, calls, system):
        """Return the answers of calls of tests, gatherers or measures, given the system of their settled bodies."""
        kind = self.kind_of(calls[0])
        if kind == "test":
            return believed(system, [self.rank_of(needed) for needed in calls])
        if kind == "gather":
            return gathered(system)
        return priced(system)


class Collection:
    """The calls that are needed for the answer of a call, with their settled bodies, and those that wait for theirs."""

    def __init__(self, call):
        self.bodies = {}
        self.waiting = [call]
