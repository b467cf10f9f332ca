"""Certificates of the answers of tests, gatherers and measures: rows that are checked call by call."""

from roundcalls.answers import Answers
from roundcalls.errors import NoCertificate
from roundcalls.falling import falling_numbers
from roundcalls.games import decided
from roundcalls.gathering import numbered_tags
from roundcalls.measuring import priced_in_order
from roundcalls.verifying import gathered_holds, priced_holds, tested_holds


def certificate(program, name, *arguments):
    """Return a correct certificate of the answer of a call.

    Raise UnknownFunction or WrongArguments if it is no call, NoCertificate for a maker.
    """
    answers = Answers(program)
    call = certified_call(answers, name, arguments)
    calls, system = answers.needed_system(call)
    kind = answers.kind_of(call)
    if kind == "test":
        return tested_rows(calls, system, [answers.rank_of(needed) for needed in calls], calls.index(call))
    if kind == "gather":
        found = [tuple(sorted(tags.items())) for tags in numbered_tags(system)]
        return tuple(zip(calls, found))
    prices, numbers = priced_in_order(system)
    return tuple(zip(calls, prices, numbers))


def certified_call(answers, name, arguments):
    """Return a call with least sheets as arguments; raise an error if it is none, or one of a maker."""
    call = answers.checked_call(name, arguments)
    if answers.kind_of(call) == "make":
        raise NoCertificate(name)
    return call


def tested_rows(calls, system, ranks, start):
    """Return the certificate of the answer of one of the calls of a system of tests."""
    winners, plans = decided(system, ranks)
    used = reached(plans, start)
    numbers = falling_numbers(used, ranks, winners[start])
    rows = [(calls[call], tuple([calls[other] for other in used[call]]), numbers[call]) for call in sorted(used)]
    return winners[start], tuple(rows)


def reached(plans, start):
    """Return a dict from the calls that can be met from a call by plans to ascending lists of those used there."""
    found = {}
    waiting = [start]
    while waiting:
        call = waiting.pop()
        if call not in found:
            found[call] = sorted(set(plans[call]))
            waiting.extend(found[call])
    return found


def certificate_holds(program, name, arguments, thing):
    """Return whether a value is a correct certificate for a call; raise the errors of certificate."""
    answers = Answers(program)
    call = certified_call(answers, name, arguments)
    kind = answers.kind_of(call)
    if kind == "test":
        return tested_holds(answers, call, thing)
    if kind == "gather":
        return gathered_holds(answers, call, thing)
    return priced_holds(answers, call, thing)
