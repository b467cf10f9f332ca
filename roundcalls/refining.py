"""Which rows of a sheet write the same value: Hopcroft's refinement of classes of rows."""


def row_classes(rows):
    """Return a list with a class number for each row: the same one for rows that write the same value."""
    classes = tag_classes(rows)
    members = class_members(classes)
    above = rows_above(rows)
    waiting = list(range(len(members)))
    while waiting:
        chosen = list(members[waiting.pop()])
        for uppers in above:
            hits = classes_hit(chosen, uppers, classes)
            for old, hit in hits.items():
                if len(hit) < len(members[old]):
                    waiting.append(len(members))
                    split_off(members, classes, old, hit)
    return classes


def tag_classes(rows):
    """Return a list with a class number for each row: the same one for rows with the same tag."""
    numbers = {}
    return [numbers.setdefault(tag, len(numbers)) for tag, _ in rows]


def class_members(classes):
    """Return a list with, for each class number, a dict whose keys are its rows."""
    members = [{} for _ in range(max(classes) + 1)]
    for row, number in enumerate(classes):
        members[number][row] = True
    return members


def rows_above(rows):
    """Return, for each field number, a list with, for each row, the rows that have it as that field."""
    most = max([len(fields) for _, fields in rows])
    above = [[[] for _ in range(len(rows))] for _ in range(most)]
    for upper, (_, fields) in enumerate(rows):
        for at, field in enumerate(fields):
            above[at][field].append(upper)
    return above


def classes_hit(chosen, uppers, classes):
    """Return a dict from classes to those of their rows (as a dict's keys) that lead to a chosen row."""
    hits = {}
    for row in chosen:
        for upper in uppers[row]:
            hits.setdefault(classes[upper], {})[upper] = True
    return hits


def split_off(members, classes, old, hit):
    """Move some rows of a class to a new class: the rows hit or the other ones.

    The fewer rows move. So no row moves often, and only the new class needs to be
    waited for: what it and the old one tell apart together has been told apart before.
    """
    moved = hit
    if 2 * len(hit) > len(members[old]):
        moved = {row: True for row in members[old] if row not in hit}
    for row in moved:
        del members[old][row]
        classes[row] = len(members)
    members.append(moved)
