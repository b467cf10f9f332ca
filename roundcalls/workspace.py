"""Workspaces: values and programs that are kept under names, and commands about them."""

from roundcalls.answers import Answers
from roundcalls.checking import check_program
from roundcalls.commands import answer_text, path_text, read_command
from roundcalls.errors import NameTaken, NoMaker, UnknownItem
from roundcalls.sameness import parting_path
from roundcalls.valuetexts import format_value


class Workspace:
    """Keeps values and programs of one signature under names, separately; names are those of the values."""

    def __init__(self, signature):
        self._signature = signature
        self._kept = {}
        self._programs = {}
        self.names = ()

    @classmethod
    def of(cls, signature, *lines):
        """Return a workspace that has executed some commands; raise the errors of run."""
        space = cls(signature)
        space.batch(*lines)
        return space

    def batch(self, *lines):
        """Execute commands and return a tuple of their answers; if one raises an error, all is as it was before."""
        trial = Workspace(self._signature)
        trial._keep(self._kept, self._programs)
        told = [trial.run(line) for line in lines]
        self._keep(trial._kept, trial._programs)
        return tuple(told)

    def run(self, line):
        """Execute a command and return its answer; raise InvalidCommand for any value that is none.

        Raise NameTaken or UnknownItem for its names, the errors of a program, those of a call, or NoMaker.
        """
        word, things = read_command(self._signature, line)
        if word == "value":
            return self._keep_value(things[0], things[1])
        if word == "program":
            return self._keep_program(things[0], things[1])
        if word == "run":
            return self._keep_made(things[0], things[1], things[2], things[3:])
        if word == "ask":
            return self._ask(things[0], things[1], things[2:])
        sheets = self._sheets(things)
        if word == "same":
            return path_text(parting_path(sheets[0], sheets[1]))
        if word == "forget":
            return self._forget(things[0])
        return format_value(sheets[0]) if word == "show" else str(len(sheets[0]))

    def _keep(self, values, programs):
        """Keep just some values and programs."""
        self._kept = dict(values)
        self._programs = dict(programs)
        self.names = tuple(sorted(values))

    def _keep_value(self, name, sheet):
        """Keep a value under a new name."""
        if name in self._kept:
            raise NameTaken(name)
        self._keep({**self._kept, name: sheet}, self._programs)
        return "ok"

    def _keep_program(self, name, program):
        """Keep a program that passes the checks under a new name."""
        if name in self._programs:
            raise NameTaken(name)
        check_program(program)
        self._keep(self._kept, {**self._programs, name: program})
        return "ok"

    def _keep_made(self, name, program, function, values):
        """Keep the answer of a maker under a new name."""
        if name in self._kept:
            raise NameTaken(name)
        answers, call = self._call(program, function, values)
        if answers.kind_of(call) != "make":
            raise NoMaker(function)
        return self._keep_value(name, answers.answer_of(call))

    def _ask(self, program, function, values):
        """Return the text of the answer of a call."""
        answers, call = self._call(program, function, values)
        return answer_text(answers.kind_of(call), answers.answer_of(call))

    def _call(self, program, function, values):
        """Return the answers of a kept program and a call of it with kept values."""
        if program not in self._programs:
            raise UnknownItem(program)
        answers = Answers(self._programs[program])
        return answers, answers.checked_call(function, self._sheets(values))

    def _sheets(self, names):
        """Return the kept values with some names."""
        for name in names:
            if name not in self._kept:
                raise UnknownItem(name)
        return [self._kept[name] for name in names]

    def _forget(self, name):
        """Keep a value no longer."""
        self._keep({other: sheet for other, sheet in self._kept.items() if other != name}, self._programs)
        return "ok"
