"""The form and the texts of programs, written from the document in another way than in the package."""

import re

NAME = re.compile(r"[a-z]{1,8}\Z")
BODY_WORDS = {
    "test": {"yes": "", "no": "", "and": "bb", "or": "bb", "call": "nT", "ask": "nT"},
    "gather": {"none": "", "one": "n", "root": "n", "union": "bb", "call": "nT", "take": "nT"},
    "measure": {"never": "", "number": "i", "plus": "ib", "least": "bb", "most": "bb", "call": "nT", "take": "nT"},
    "make": {"part": "n", "tag": "nT", "call": "nT"},
}
TERM_WORDS = BODY_WORDS["make"]
CONDITION_WORDS = {"ask": "nT", "same": "tt", "is": "tn", "not": "c", "both": "cc", "either": "cc"}


def is_integer(thing, most):
    return type(thing) is int and 0 <= thing <= most


def is_word(thing):
    return isinstance(thing, str) and NAME.match(thing) is not None


def has_form(thing):
    """Whether a value has the form of a program."""
    if not (isinstance(thing, tuple) and len(thing) == 2 and all(isinstance(item, tuple) for item in thing)):
        return False
    signature, groups = thing
    for pair in signature:
        if not (isinstance(pair, tuple) and len(pair) == 2 and is_word(pair[0]) and is_integer(pair[1], 3)):
            return False
    tags = [tag for tag, _ in signature]
    if "void" in tags or tags != sorted(set(tags)) or groups == () or not all(group_has_form(item) for item in groups):
        return False
    names = [function[0] for group in groups for function in group[1]]
    return len(names) == len(set(names))


def group_has_form(thing):
    if not (isinstance(thing, tuple) and len(thing) == 2 and isinstance(thing[0], str) and thing[0] in BODY_WORDS):
        return False
    if not isinstance(thing[1], tuple) or thing[1] == ():
        return False
    return all(function_has_form(thing[0], item) for item in thing[1])


def function_has_form(sort, thing):
    if not (isinstance(thing, tuple) and len(thing) == 4 and is_word(thing[0]) and names_have_form(thing[1])):
        return False
    if not 1 <= len(thing[1]) <= 4 or not is_integer(thing[2], 9 if sort == "test" else 0):
        return False
    return part_has_form(sort, thing[3])


def names_have_form(thing):
    return isinstance(thing, tuple) and all(is_word(name) for name in thing) and len(set(thing)) == len(thing)


def part_has_form(kind, thing):
    if not isinstance(thing, tuple) or thing == () or not isinstance(thing[0], str):
        return False
    word, items = thing[0], thing[1:]
    if kind in BODY_WORDS and word == "case":
        if len(items) != 3 or not is_word(items[0]):
            return False
        return branches_have_form(kind, items[1]) and part_has_form(kind, items[2])
    if kind in BODY_WORDS and word == "if":
        shape = "cbb"
    else:
        shape = {"term": TERM_WORDS, "condition": CONDITION_WORDS, **BODY_WORDS}[kind].get(word)
    if shape is None or len(shape) != len(items):
        return False
    checks = {
        "n": is_word,
        "i": lambda item: is_integer(item, 99),
        "t": lambda item: part_has_form("term", item),
        "T": lambda item: isinstance(item, tuple) and all(part_has_form("term", term) for term in item),
        "c": lambda item: part_has_form("condition", item),
        "b": lambda item: part_has_form(kind, item),
    }
    return all(checks[mark](item) for mark, item in zip(shape, items))


def branches_have_form(kind, thing):
    if not isinstance(thing, tuple):
        return False
    for branch in thing:
        if not (isinstance(branch, tuple) and len(branch) == 3 and is_word(branch[0]) and names_have_form(branch[1])):
            return False
        if not part_has_form(kind, branch[2]):
            return False
    tags = [branch[0] for branch in thing]
    return tags == sorted(set(tags))


def text_of(program):
    """The text of a program."""
    signature, groups = program
    text = "tags" + "".join(f" {tag} {count}" for tag, count in signature)
    for sort, functions in groups:
        text += "\n" + sort
        for name, params, rank, body in functions:
            ranked = f" rank {rank}" if sort == "test" else ""
            text += f"\n{name}{''.join(' ' + param for param in params)}{ranked} = {text_of_part(body)}"
    return text


def text_of_part(part):
    word = part[0]
    if word == "part":
        return part[1]
    if word == "case":
        branches = "".join(
            f" ({' '.join([tag, *names])}) {text_of_part(body)}" for tag, names, body in part[2]
        )
        return f"(case {part[1]}{branches} else {text_of_part(part[3])})"
    items = [word]
    for item in part[1:]:
        if isinstance(item, (str, int)):
            items.append(str(item))
        elif item and isinstance(item[0], str):
            items.append(text_of_part(item))
        else:
            items.extend(text_of_part(term) for term in item)
    return "(" + " ".join(items) + ")"


class NoText(Exception):
    pass


class Reader:
    """Reads a body from left to right, without going back; what it reads must stand there as it is."""

    def __init__(self, text):
        self.text = text
        self.at = 0

    def expect(self, mark):
        if not self.text.startswith(mark, self.at):
            raise NoText
        self.at += len(mark)

    def sees(self, mark):
        return self.text.startswith(mark, self.at)

    def match(self, pattern):
        found = re.compile(pattern).match(self.text, self.at)
        if found is None:
            raise NoText
        self.at = found.end()
        return found.group()

    def word(self):
        return self.match(r"[a-z]{1,8}(?![a-z0-9])")

    def number(self):
        return int(self.match(r"(0|[1-9][0-9]?)(?![a-z0-9])"))

    def part(self, kind):
        if not self.sees("("):
            if kind not in ("term", "make"):
                raise NoText
            return "part", self.word()
        self.expect("(")
        word = self.word()
        if kind in BODY_WORDS and word == "case":
            found = self.case(kind)
        else:
            words = {"term": TERM_WORDS, "condition": CONDITION_WORDS, **BODY_WORDS}[kind]
            shape = "cbb" if word == "if" and kind in BODY_WORDS else words.get(word)
            if shape is None or word == "part":
                raise NoText
            found = (word,) + tuple(self.item(kind, mark) for mark in shape)
        self.expect(")")
        return found

    def item(self, kind, mark):
        if mark == "T":
            terms = []
            while self.sees(" "):
                self.expect(" ")
                terms.append(self.part("term"))
            return tuple(terms)
        self.expect(" ")
        if mark == "n":
            return self.word()
        if mark == "i":
            return self.number()
        return self.part({"t": "term", "c": "condition", "b": kind}[mark])

    def case(self, kind):
        self.expect(" ")
        name = self.word()
        self.expect(" ")
        branches = []
        while self.sees("("):
            self.expect("(")
            words = [self.word()]
            while self.sees(" "):
                self.expect(" ")
                words.append(self.word())
            self.expect(") ")
            branches.append((words[0], tuple(words[1:]), self.part(kind)))
            self.expect(" ")
        self.expect("else ")
        return "case", name, tuple(branches), self.part(kind)


def read_text(text):
    """The program of a text, or None if it is none."""
    lines = text.split("\n")
    if re.fullmatch(r"tags( [a-z]{1,8} [0-3])*", lines[0]) is None:
        return None
    words = lines[0].split()
    groups = []
    for line in lines[1:]:
        if line in BODY_WORDS:
            groups.append((line, []))
            continue
        ranked = r" rank [0-9]" if groups and groups[-1][0] == "test" else ""
        found = re.match(r"([a-z]{1,8})((?: [a-z]{1,8}){1,4})" + ranked + " = ", line)
        if found is None or not groups:
            return None
        reader = Reader(line[found.end():])
        try:
            body = reader.part(groups[-1][0])
        except NoText:
            return None
        if reader.at != len(reader.text):
            return None
        rank = int(found.group()[-4]) if ranked else 0
        groups[-1][1].append((found.group(1), tuple(found.group(2).split()), rank, body))
    signature = tuple((tag, int(count)) for tag, count in zip(words[1::2], words[2::2]))
    program = signature, tuple((sort, tuple(functions)) for sort, functions in groups)
    return program if has_form(program) else None
