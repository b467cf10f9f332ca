"""The words of programs, and what stands behind each of them."""

SORTS = ("make", "test", "gather", "measure")
MOST_PARAMS = 4
MOST_RANK = 9
MOST_NUMBER = 99

# The kind of each item behind a word. "body" is a body of the sort of the body in which it stands.
SLOTS = {
    "part": ("name",),
    "tag": ("tag", "terms"),
    "call": ("name", "terms"),
    "ask": ("name", "terms"),
    "take": ("name", "terms"),
    "same": ("term", "term"),
    "is": ("term", "tag"),
    "not": ("condition",),
    "both": ("condition", "condition"),
    "either": ("condition", "condition"),
    "case": ("name", "branches", "body"),
    "if": ("condition", "body", "body"),
    "yes": (),
    "no": (),
    "and": ("body", "body"),
    "or": ("body", "body"),
    "none": (),
    "one": ("tag",),
    "root": ("name",),
    "union": ("body", "body"),
    "never": (),
    "number": ("number",),
    "plus": ("number", "body"),
    "least": ("body", "body"),
    "most": ("body", "body"),
}

# The words of terms, of conditions and of the bodies of each sort.
WORDS = {
    "term": ("part", "tag", "call"),
    "condition": ("ask", "same", "is", "not", "both", "either"),
    "make": ("case", "if", "part", "tag", "call"),
    "test": ("case", "if", "yes", "no", "and", "or", "call", "ask"),
    "gather": ("case", "if", "none", "one", "root", "union", "call", "take"),
    "measure": ("case", "if", "never", "number", "plus", "least", "most", "call", "take"),
}

# The words of uses of functions.
USES = ("call", "ask", "take")


def parts_inside(kind, part):
    """Return (kind, indexes that lead to it, part) for the terms, conditions and bodies right inside a part."""
    found = []
    for at, slot in enumerate(SLOTS[part[0]], start=1):
        item = part[at]
        if slot in ("term", "condition"):
            found.append((slot, (at,), item))
        elif slot == "body":
            found.append((kind, (at,), item))
        elif slot == "terms":
            found.extend([("term", (at, number), term) for number, term in enumerate(item)])
        elif slot == "branches":
            found.extend([(kind, (at, number, 2), branch[2]) for number, branch in enumerate(item)])
    return found


def parts_of(kind, part):
    """Return all terms, conditions and bodies in a part, itself included."""
    found = []
    waiting = [(kind, part)]
    while waiting:
        inner, item = waiting.pop()
        found.append(item)
        waiting.extend([(within, below) for within, _, below in parts_inside(inner, item)])
    return found
