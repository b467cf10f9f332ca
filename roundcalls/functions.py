"""The functions of programs, and their calls."""

from roundcalls.errors import UnknownFunction, WrongArguments
from roundcalls.kinds import is_pair, is_row_of
from roundcalls.sheets import is_sheet, least_sheet


class Function:
    """A function of a program, with the sort of its group, kind, and the number of its group."""

    def __init__(self, kind, group, function):
        self.kind = kind
        self.group = group
        self.name, self.params, self.rank, self.body = function


def functions_of(program):
    """Return a dict from the names of all functions of a program to the functions."""
    found = {}
    for group, (sort, functions) in enumerate(program[1]):
        for function in functions:
            found[function[0]] = Function(sort, group, function)
    return found


def check_known(functions, name):
    """Raise UnknownFunction for any value that is not the name of a function."""
    if not isinstance(name, str) or name not in functions:
        raise UnknownFunction(name)


def least_call(functions, name, arguments):
    """Return a call with least sheets as arguments; raise UnknownFunction or WrongArguments if it is none."""
    check_known(functions, name)
    if len(arguments) != len(functions[name].params):
        raise WrongArguments(len(arguments))
    return name, tuple([least_sheet(sheet) for sheet in arguments])


def is_call(signature, functions, thing):
    """Return whether a value is a call of a function of a program, whatever sheets its arguments have."""
    if not is_pair(thing):
        return False
    name, arguments = thing
    if not isinstance(name, str) or name not in functions:
        return False
    if not is_row_of(arguments, len(functions[name].params)):
        return False
    return all([is_sheet(signature, sheet) for sheet in arguments])
