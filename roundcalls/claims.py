"""Claims: what may be said of values and programs, and whether it is so."""

from roundcalls.certificates import certificate_holds
from roundcalls.checking import check_program
from roundcalls.errors import RoundCallsError, UnknownFunction
from roundcalls.functions import functions_of
from roundcalls.hidden import untold_holds
from roundcalls.kinds import is_number, is_row_of, is_same_thing
from roundcalls.programs import is_program
from roundcalls.running import answer
from roundcalls.sameness import pairs_hold, parting_path
from roundcalls.sheets import is_sheet, least_sheet
from roundcalls.signatures import is_signature
from roundcalls.tops import is_top
from roundcalls.wishing import no_wish_holds

MOST_HIDDEN_PARTS = 4


def claim_holds(thing):
    """Return whether a value is a claim that holds."""
    if not isinstance(thing, tuple) or len(thing) == 0 or not isinstance(thing[0], str):
        return False
    word, *parts = thing
    if word not in CHECKS or len(parts) != PARTS_BEHIND[word]:
        return False
    check = CHECKS[word]
    try:
        return check(parts)
    except (RoundCallsError, UnknownFunction):
        return False


def same_holds(parts):
    """Return whether pairs show that two sheets of a signature write the same value."""
    signature, sheet, other, pairs = parts
    return are_sheets(signature, (sheet, other)) and pairs_hold(sheet, other, pairs)


def parted_holds(parts):
    """Return whether a path is the parting path of two values of a signature."""
    signature, sheet, other, path = parts
    if not are_sheets(signature, (sheet, other)):
        return False
    found = parting_path(sheet, other)
    return found is not None and is_same_thing(path, found)


def are_sheets(signature, things):
    """Return whether a value is a signature and some values are sheets of it."""
    return is_signature(signature) and all([is_sheet(signature, thing) for thing in things])


def answer_holds(parts):
    """Return whether a call has an answer; that of a maker may be any sheet that writes it."""
    program, name, arguments, told = parts
    if not is_passed(program) or not are_arguments(program, arguments):
        return False
    found = answer(program, name, *arguments)
    if functions_of(program)[name].kind == "make":
        return is_sheet(program[0], told) and least_sheet(told) == found
    return is_same_thing(told, found)


def certified_holds(parts):
    """Return whether a certificate is correct for a call."""
    program, name, arguments, rows = parts
    if not is_passed(program) or not are_arguments(program, arguments):
        return False
    return certificate_holds(program, name, arguments, rows)


def is_passed(thing):
    """Return whether a value is a program; raise the first error of a program that does not pass the checks."""
    if not is_program(thing):
        return False
    check_program(thing)
    return True


def are_arguments(program, thing):
    """Return whether a value is a tuple of sheets of the signature of a program."""
    return isinstance(thing, tuple) and are_sheets(program[0], thing)


def no_value_holds(parts):
    """Return whether paths show that no value with few parts has a top."""
    signature, top, n, paths = parts
    if not is_number(n) or not 1 <= n <= MOST_HIDDEN_PARTS or not is_signature(signature):
        return False
    return is_top(signature, 2 * n - 2, top) and untold_holds(signature, n, top, paths)


def no_wish_claim_holds(parts):
    """Return whether rows show that a simple test accepts no value."""
    program, name, rows = parts
    return is_passed(program) and no_wish_holds(program, name, rows)


# How many parts stand behind the word of each sort of claims, and what tells whether it holds.
PARTS_BEHIND = {"same": 4, "parted": 4, "answer": 4, "certified": 4, "no value": 4, "no wish": 3}
CHECKS = {
    "same": same_holds,
    "parted": parted_holds,
    "answer": answer_holds,
    "certified": certified_holds,
    "no value": no_value_holds,
    "no wish": no_wish_claim_holds,
}
