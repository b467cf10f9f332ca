"""Machines, which answer calls step by step."""

from roundcalls.answers import Answers
from roundcalls.errors import NotFinished, NotPending
from roundcalls.settledbodies import calls_in


class Machine:
    """Answers one call: pending calls are expanded, in any order, until none is pending."""

    def __init__(self, program, name, *arguments):
        self._answers = Answers(program)
        self._asked = self._answers.checked_call(name, arguments)
        self._met = {self._asked: True}
        # What the call comes to; it is found when no call is pending any more.
        self._told = None
        self.pending = (self._asked,)

    @property
    def answer(self):
        """The answer of the call; reading it raises NotFinished while a call is pending."""
        if len(self.pending) > 0:
            raise NotFinished()
        return self._told

    def steps(self):
        """Expand the least pending call each time that an item is asked for; yield (call, settled body)."""
        while len(self.pending) > 0:
            call = self.pending[0]
            yield call, self.expand(call)

    def expand(self, call):
        """Expand a pending call and return its settled body; raise NotPending for any other value."""
        if not self._answers.is_call(call) or call not in self.pending:
            raise NotPending(call)
        body = self._answers.settled_body(call)
        left = [other for other in self.pending if other != call]
        for other in calls_in(body):
            if other not in self._met:
                self._met[other] = True
                left.append(other)
        self.pending = tuple(sorted(left))
        if not left:
            self._told = self._answers.answer_of(self._asked)
        return body
