"""Plain and slow ways to tell what the document says of values, to check the package against."""

import itertools

SMALL_SIGN = (("a", 0), ("b", 1), ("c", 2))


def all_sheets(signature, size):
    """Every sheet of the signature with this many rows."""
    counts = dict(signature, void=0)
    rows = [
        (tag, fields)
        for tag in sorted(counts)
        for fields in itertools.product(range(size), repeat=counts[tag])
    ]
    return list(itertools.product(rows, repeat=size))


def differing_rows(rows):
    """The pairs of rows that write different values, found by filling a table from the tags on."""
    size = range(len(rows))
    differing = {(a, b) for a in size for b in size if rows[a][0] != rows[b][0]}
    while True:
        more = {
            (a, b)
            for a in size
            for b in size
            if (a, b) not in differing and any(pair in differing for pair in zip(rows[a][1], rows[b][1]))
        }
        if not more:
            return differing
        differing |= more


def joint(sheet, other):
    """The rows of two sheets in one tuple; the second root is row len(sheet)."""
    moved = tuple((tag, tuple(field + len(sheet) for field in fields)) for tag, fields in other)
    return sheet + moved


def same(sheet, other):
    return (0, len(sheet)) not in differing_rows(joint(sheet, other))


def least(sheet):
    """The least sheet, by a recursive walk over representatives of the rows."""
    differing = differing_rows(sheet)
    first = [min(b for b in range(len(sheet)) if (a, b) not in differing) for a in range(len(sheet))]
    numbers = {}

    def visit(row):
        if first[row] not in numbers:
            numbers[first[row]] = len(numbers)
            for field in sheet[row][1]:
                visit(field)

    visit(0)
    return tuple((sheet[row][0], tuple(numbers[first[field]] for field in sheet[row][1])) for row in numbers)


def nodes_down_to(sheet, depth):
    """A dict from the paths of at most this many steps to the rows at them, in the order of point 36."""
    rows = {(): 0}
    level = [()]
    for _ in range(depth):
        level = [path + (at,) for path in level for at in range(len(sheet[rows[path]][1]))]
        for path in level:
            rows[path] = sheet[rows[path[:-1]]][1][path[-1]]
    return rows


def tags_down_to(sheet, depth):
    """A dict from the paths of at most this many steps to the tags at them, in the order of point 36."""
    return {path: sheet[row][0] for path, row in nodes_down_to(sheet, depth).items()}


def parting(sheet, other, depth):
    """The parting path, if there is one of at most this many steps."""
    mine, theirs = tags_down_to(sheet, depth), tags_down_to(other, depth)
    for path in mine:
        # The shortest and least path comes first, so no beginning of it has differing tags.
        if path in theirs and mine[path] != theirs[path]:
            return path
    return None


def rerooted(sheet, row):
    """The sheet in which a row and row 0 have changed places: it writes the part of that row."""
    moved = [row if at == 0 else 0 if at == row else at for at in range(len(sheet))]
    return tuple((sheet[at][0], tuple(moved[field] for field in sheet[at][1])) for at in moved)


def top(sheet, depth, row=0):
    """The top to a depth of the part of a row."""
    if depth < 0:
        return None
    tag, fields = sheet[row]
    return tag, tuple(top(sheet, depth - 1, field) for field in fields)


def all_tops(signature, depth):
    """Every top of a value of the signature to a depth."""
    fields = all_tops(signature, depth - 1) if depth > 0 else [None]
    counts = dict(signature, void=0)
    return [(tag, item) for tag in sorted(counts) for item in itertools.product(fields, repeat=counts[tag])]


def rewritings(sheet):
    """Other sheets that write the same value: rows in another order, rows twice, rows that cannot be reached."""
    size = len(sheet)
    turned = [0] + list(range(size - 1, 0, -1))
    doubled = [(tag, tuple(field + size for field in fields)) for tag, fields in sheet]
    return [
        tuple((sheet[at][0], tuple(turned[field] for field in sheet[at][1])) for at in turned),
        tuple(doubled) + sheet,
        sheet + (("void", ()),) + sheet[:1],
    ]
