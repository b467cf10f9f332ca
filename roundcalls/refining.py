"""Which rows of a sheet write the same value: Hopcroft's refinement of classes of rows."""


class Partition:
    """Classes of rows, numbered from 0 on; at first rows with the same tag are in one class."""

    def __init__(self, rows):
        tags = {}
        for tag, _ in rows:
            tags.setdefault(tag, len(tags))
        self.class_of = [tags[tag] for tag, _ in rows]
        self.members = [{} for _ in range(len(tags))]
        for row, number in enumerate(self.class_of):
            self.members[number][row] = True

    def by_class(self, rows):
        """Return a dict from classes to those of the rows that are in them, as the keys of dicts."""
        found = {}
        for row in rows:
            found.setdefault(self.class_of[row], {})[row] = True
        return found

    def split_off(self, old, hit):
        """Move either the rows hit of a class or its other rows to a new class; return its number.

        The fewer rows move, so that no row moves often.
        """
        moved = hit
        if 2 * len(hit) > len(self.members[old]):
            moved = {row: True for row in self.members[old] if row not in hit}
        number = len(self.members)
        for row in moved:
            del self.members[old][row]
            self.class_of[row] = number
        self.members.append(moved)
        return number


def row_classes(rows):
    """Return a list with a class number for each row: the same one for rows that write the same value."""
    partition = Partition(rows)
    above = rows_above(rows)
    waiting = list(range(len(partition.members)))
    while waiting:
        chosen = list(partition.members[waiting.pop()])
        for uppers in above:
            hits = partition.by_class([upper for row in chosen for upper in uppers[row]])
            for old, hit in hits.items():
                # The old class need not wait again: it and the new one together have waited before.
                if len(hit) < len(partition.members[old]):
                    waiting.append(partition.split_off(old, hit))
    return partition.class_of


def rows_above(rows):
    """Return, for each field number, a list with, for each row, the rows that have it as that field."""
    most = max([len(fields) for _, fields in rows])
    above = [[[] for _ in range(len(rows))] for _ in range(most)]
    for upper, (_, fields) in enumerate(rows):
        for at, field in enumerate(fields):
            above[at][field].append(upper)
    return above
