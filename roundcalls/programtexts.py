"""The texts of programs."""

from roundcalls.errors import InvalidText
from roundcalls.forms import MOST_NUMBER, MOST_RANK, SLOTS, SORTS
from roundcalls.programs import is_program
from roundcalls.signatures import MOST_FIELDS
from roundcalls.words import read_number


def format_program(program):
    """Return the text of a program: a line for the signature, for each group and for each function."""
    signature, groups = program
    lines = [" ".join(["tags"] + [f"{tag} {count}" for tag, count in signature])]
    for sort, functions in groups:
        lines.append(sort)
        lines.extend([function_line(sort, function) for function in functions])
    return "\n".join(lines)


def function_line(sort, function):
    """Return the line of a function of a sort."""
    name, params, rank, body = function
    words = [name, *params]
    if sort == "test":
        words = words + ["rank", str(rank)]
    return " ".join(words + ["=", part_text(body)])


def part_text(part):
    """Return the text of a term, a condition or a body."""
    words = []
    waiting = [part]
    while waiting:
        item = waiting.pop()
        if isinstance(item, str):
            words.append(item)
        else:
            waiting.extend(written_items(item)[::-1])
    return " ".join(words).replace("( ", "(").replace(" )", ")")


def written_items(part):
    """Return what is written of a part, in order: words and brackets, and the parts inside it as they are."""
    word = part[0]
    if word == "part":
        return [part[1]]
    items = ["(", word]
    for slot, item in zip(SLOTS[word], part[1:]):
        if slot == "terms":
            items.extend(item)
        elif slot == "branches":
            items.extend(written_branches(item))
        elif slot == "number":
            items.append(str(item))
        else:
            items.append(item)
    return items + [")"]


def written_branches(branches):
    """Return what is written of the branches of a case, and the word behind them."""
    items = []
    for tag, names, body in branches:
        items.extend(["(", tag, *names, ")", body])
    return items + ["else"]


def parse_program(text):
    """Return the program of a text; raise InvalidText for anything that is not the text of a program."""
    if not isinstance(text, str):
        raise InvalidText()
    first, *lines = text.split("\n")
    groups = []
    for line in lines:
        if line in SORTS:
            groups.append((line, []))
        elif groups:
            sort, functions = groups[-1]
            functions.append(read_function(sort, line))
        else:
            raise InvalidText()
    program = (read_signature(first), tuple([(sort, tuple(functions)) for sort, functions in groups]))
    # Reading lets some things pass, such as a word too many: only the very text of the program is its text.
    if not is_program(program) or format_program(program) != text:
        raise InvalidText()
    return program


def read_signature(line):
    """Return the signature of a line of tags and counts, with None for what is no count."""
    words = line.split(" ")
    return tuple([(tag, read_number(word, MOST_FIELDS)) for tag, word in zip(words[1::2], words[2::2])])


def read_function(sort, line):
    """Return the function of a sort that a line writes."""
    head, _, body = line.partition(" = ")
    words = head.split(" ")
    rank = 0
    if sort == "test":
        rank = read_number(words[-1], MOST_RANK)
        words = words[:-2]
    if not words:
        raise InvalidText()
    return words[0], tuple(words[1:]), rank, read_part(body)


def read_part(text):
    """Return the term, condition or body that a text writes; raise InvalidText if it is none for its brackets."""
    # The brackets that are open, from the outermost one on, each with what has been read in it.
    opened = [[]]
    for word in text.replace("(", "( ").replace(")", " )").split(" "):
        if word == "(":
            opened.append([])
        elif word == ")":
            items = opened.pop()
            if not opened:
                raise InvalidText()
            opened[-1].append(read_bracket(items, is_branch_next(opened[-1])))
        else:
            opened[-1].append(word)
    if len(opened) != 1 or len(opened[0]) != 1:
        raise InvalidText()
    return as_part(opened[0][0])


def is_branch_next(items):
    """Return whether a bracket behind these items is a branch: every second one behind the name of a case is."""
    return items[:1] == ["case"] and len(items) % 2 == 0


def as_part(item):
    """Return the part that an item of a bracket is: a word is that of a name."""
    return ("part", item) if isinstance(item, str) else item


def read_bracket(items, is_branch):
    """Return the branch, as a tuple of words, or else the part that a bracket with these items writes."""
    if is_branch and items:
        return tuple(items)
    if not items or not isinstance(items[0], str) or items[0] not in SLOTS:
        raise InvalidText()
    if items[0] == "case":
        return read_case(items)
    return read_plain(items[0], SLOTS[items[0]], items[1:])


def read_case(items):
    """Return the case that a bracket with these items writes."""
    if len(items) < 4 or items[-2] != "else":
        raise InvalidText()
    branches = []
    for branch, body in zip(items[2:-2:2], items[3:-2:2]):
        if isinstance(branch, str):
            raise InvalidText()
        branches.append((branch[0], branch[1:], as_part(body)))
    return "case", items[1], tuple(branches), as_part(items[-1])


def read_plain(word, slots, items):
    """Return the part with a word, other than case, and these items behind it."""
    if slots[-1:] == ("terms",):
        alone = len(slots) - 1
        items = items[:alone] + [tuple([as_part(item) for item in items[alone:]])]
    if len(items) != len(slots):
        raise InvalidText()
    return (word,) + tuple([read_item(slot, item) for slot, item in zip(slots, items)])


def read_item(slot, item):
    """Return what an item stands for at a place behind a word."""
    if slot == "number":
        if not isinstance(item, str):
            raise InvalidText()
        return read_number(item, MOST_NUMBER)
    if slot in ("term", "condition", "body"):
        return as_part(item)
    return item
