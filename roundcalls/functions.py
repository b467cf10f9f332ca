"""The functions of programs, and their calls."""

from roundcalls.errors import UnknownFunction, WrongArguments
from roundcalls.sheets import least_sheet


class Function:
    """A function of a program, with the sort of its group, kind, and the number of its group."""

    def __init__(self, kind, group, function):
        self.kind = kind
        self.group = group
        self.name, self.params, self.rank, self.body = function


def functions_of(program):
    """Return a dict from the names of all functions of a program to the functions."""
    found = {}
    for group, (sort, functions) in enumerate(program[1]):
        for function in functions:
            found[function[0]] = Function(sort, group, function)
    return found


def least_call(functions, name, arguments):
    """Return a call with least sheets as arguments; raise UnknownFunction or WrongArguments if it is none."""
    if not isinstance(name, str) or name not in functions:
        raise UnknownFunction(name)
    if len(arguments) != len(functions[name].params):
        raise WrongArguments(len(arguments))
    return name, tuple([least_sheet(sheet) for sheet in arguments])
