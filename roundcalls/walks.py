"""Walks over the nodes of values: all of them in turn, or step by step where one likes."""

from roundcalls.errors import NoPath
from roundcalls.paths import row_at, row_below
from roundcalls.sheets import least_sheet, rooted


def walk(sheet):
    """Yield (path, tag) for the nodes of a value, shorter paths first, then field by field."""
    level = [((), 0)]
    while level:
        following = []
        for path, row in level:
            tag, fields = sheet[row]
            yield path, tag
            for at, field in enumerate(fields):
                following.append((path + (at,), field))
        level = following


class Walker:
    """Stands at a node of a value, at first at the root; path, tag and part are those of that node."""

    def __init__(self, sheet):
        self._sheet = least_sheet(sheet)
        self._row = 0
        self.path = ()
        self.tag = self._sheet[0][0]
        self.part = self._sheet

    @classmethod
    def start(cls, sheet, *fields):
        """Return a walker that goes to the path of these fields; raise NoPath if it leads to no node."""
        walker = cls(sheet)
        walker.go(fields)
        return walker

    def go(self, path):
        """Go to the node at a path from the root and return the path; raise NoPath if there is none."""
        row = row_at(self._sheet, path)
        if row is None:
            raise NoPath(path)
        return self._stand(path, row)

    def down(self, field):
        """Go to a field of the node and return the new path; raise NoPath if the node has no such field."""
        path = self.path + (field,)
        row = row_below(self._sheet, self._row, field)
        if row is None:
            raise NoPath(path)
        return self._stand(path, row)

    def up(self):
        """Go to the node above and return its path; raise NoPath at the root."""
        if self.path == ():
            raise NoPath(())
        path = self.path[:-1]
        return self._stand(path, row_at(self._sheet, path))

    def _stand(self, path, row):
        """Stand at the node at a path, which a row writes, and return the path."""
        self._row = row
        self.path = path
        self.tag = self._sheet[row][0]
        self.part = rooted(self._sheet, row)
        return path


class Recorder(Walker):
    """A walker that keeps the paths at which it has stood, and the number of different parts there."""

    def __init__(self, sheet):
        super().__init__(sheet)
        self._rows_met = {0: True}
        self.trail = ((),)
        self.met = 1

    def go(self, path):
        """Go to the node at a path from the root and return the path; raise NoPath if there is none."""
        reached = super().go(path)
        self._note()
        return reached

    def down(self, field):
        """Go to a field of the node and return the new path; raise NoPath if the node has no such field."""
        reached = super().down(field)
        self._note()
        return reached

    def up(self):
        """Go to the node above and return its path; raise NoPath at the root."""
        reached = super().up()
        self._note()
        return reached

    def _note(self):
        """Keep where the walker stands now."""
        self._rows_met[self._row] = True
        self.trail = self.trail + (self.path,)
        self.met = len(self._rows_met)
