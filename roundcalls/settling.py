"""Settled bodies of calls, and the calls that a call needs."""

from roundcalls.answers import Answers


def settle(program, call):
    """Return the settled body of a call; raise UnknownFunction or WrongArguments if it is none."""
    answers = Answers(program)
    name, arguments = call
    return answers.settled_body(answers.checked_call(name, arguments))


def needed_calls(program, call):
    """Return the calls that a call needs, ascending; raise the errors of settle."""
    answers = Answers(program)
    name, arguments = call
    return tuple(sorted(answers.needed_bodies(answers.checked_call(name, arguments))))
