"""Commands of workspaces: what a line asks for, and how answers are written."""

from roundcalls.errors import InvalidCommand, InvalidText
from roundcalls.programtexts import parse_program
from roundcalls.signatures import is_name
from roundcalls.valuetexts import format_value, parse_value

# How many names stand behind each word, at least and at most; None for any number.
NAMES_BEHIND = {
    "run": (3, None),
    "ask": (2, None),
    "show": (1, 1),
    "same": (2, 2),
    "parts": (1, 1),
    "forget": (1, 1),
}


def read_command(signature, line):
    """Return (word, things) for a command: names, or a name and a value or a program.

    Raise InvalidCommand for any value that is no command.
    """
    if not isinstance(line, str) or "\n" in line:
        raise InvalidCommand()
    word, *rest = line.split(" ")
    if word in ("value", "program"):
        return word, read_definition(signature, word, rest)
    if word not in NAMES_BEHIND or not all([is_name(name) for name in rest]):
        raise InvalidCommand()
    least, most = NAMES_BEHIND[word]
    if len(rest) < least or (most is not None and len(rest) > most):
        raise InvalidCommand()
    return word, rest


def read_definition(signature, word, rest):
    """Return a list of the name and the value or the program that the words behind a word give."""
    if not rest or not is_name(rest[0]):
        raise InvalidCommand()
    text = " ".join(rest[1:])
    try:
        if word == "value":
            return [rest[0], parse_value(signature, text)]
        program = parse_program(text.replace(" / ", "\n"))
    except InvalidText:
        raise InvalidCommand()
    if program[0] != signature:
        raise InvalidCommand()
    return [rest[0], program]


def answer_text(kind, found):
    """Return the text of the answer of a function of a sort."""
    if kind == "make":
        return format_value(found)
    if kind == "test":
        return "yes" if found else "no"
    if kind == "gather":
        return " ".join(found) if found else "none"
    return "never" if found is None else str(found)


def path_text(path):
    """Return the answer that two values part at a path, or that they are the same if it is None."""
    if path is None:
        return "yes"
    return " ".join(["no"] + [str(field) for field in path])
