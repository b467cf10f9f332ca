"""Running calls: their answers, and how runs of growing depth come to them."""

from roundcalls.answers import Answers
from roundcalls.errors import NoRuns
from roundcalls.gathering import tags_with
from roundcalls.measuring import price_of
from roundcalls.tops import tops_of_rows


def answer(program, name, *arguments):
    """Return the answer of a call; raise UnknownFunction or WrongArguments if it is none."""
    answers = Answers(program)
    return answers.answer_of(answers.checked_call(name, arguments))


def runs(program, name, *arguments):
    """Yield the runs of depth 0, 1, 2, .. of a call of a gatherer or a measure, without end.

    For a maker yield the tops of the answer to these depths. Raise the errors of answer, and
    NoRuns for a test.
    """
    answers = Answers(program)
    call = answers.checked_call(name, arguments)
    kind = answers.kind_of(call)
    if kind == "test":
        raise NoRuns(name)
    if kind == "make":
        sheet = answers.answer_of(call)
        tops = [None for _ in sheet]
        while True:
            tops = tops_of_rows(sheet, tops)
            yield tops[0]
    calls, system = answers.needed_system(call)
    start = calls.index(call)
    run = [() if kind == "gather" else None for _ in system]
    while True:
        yield run[start]
        run = [tags_with(body, run) if kind == "gather" else price_of(body, run) for body in system]
