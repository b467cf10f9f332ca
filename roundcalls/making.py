"""The answers of makers: values whose sheets have rows for calls."""

from roundcalls.sheets import merged_rows, moved_rows
from roundcalls.signatures import VOID


def made_rows(system):
    """Return (rows, roots): a dict of rows, no two of which write the same value, and the row of each call."""
    layout = Layout(len(system))
    for number in range(len(system)):
        layout.write_call(number, body_reached(system, number))
    rows, numbers = merged_rows(layout.rows)
    return rows, numbers[:len(system)]


def body_reached(system, number):
    """Return the settled body to which a call goes on through calls alone, or None if it does so for ever."""
    for _ in range(len(system)):
        body = system[number]
        if body[0] != "call":
            return body
        number = body[1]
    return None


class Layout:
    """Rows that write the values of calls: first one for each call, then those of what is inside them."""

    def __init__(self, size):
        self.rows = [None for _ in range(size)]
        self._places = {}

    def write_call(self, number, body):
        """Write the row of a call that goes on to a settled body, or for ever if that is None."""
        self.rows[number] = (VOID, ()) if body is None else self._row(body)

    def _row(self, body):
        """Return the row for the root of a settled body that is no call."""
        if body[0] == "tag":
            return body[1], tuple([self._place(inner) for inner in body[2]])
        return self.rows[self._place(body)]

    def _place(self, body):
        """Return the number of a row for the root of a settled body."""
        if body[0] == "call":
            return body[1]
        if body[0] == "value":
            return self._place_sheet(body[1])
        row = self._row(body)
        self.rows.append(row)
        return len(self.rows) - 1

    def _place_sheet(self, sheet):
        """Return the number of the first row of a sheet, all of whose rows are written once."""
        if sheet not in self._places:
            self._places[sheet] = len(self.rows)
            self.rows.extend(moved_rows(sheet, len(self.rows)))
        return self._places[sheet]
