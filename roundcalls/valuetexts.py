"""The texts of values: those of their least sheets."""

from roundcalls.errors import InvalidText
from roundcalls.sheets import is_sheet, least_sheet
from roundcalls.words import read_number


def format_value(sheet):
    """Return the text of a value: the rows of its least sheet, each a tag and row numbers."""
    return "; ".join([format_row(row) for row in least_sheet(sheet)])


def format_row(row):
    """Return the text of a row."""
    tag, fields = row
    return " ".join([tag] + [str(field) for field in fields])


def parse_value(signature, text):
    """Return the value of a text; raise InvalidText for anything that is not the text of a value."""
    if not isinstance(text, str):
        raise InvalidText()
    lines = text.split("; ")
    sheet = tuple([read_row(line, len(lines)) for line in lines])
    if not is_sheet(signature, sheet) or least_sheet(sheet) != sheet:
        raise InvalidText()
    return sheet


def read_row(line, size):
    """Return the row of a sheet of so many rows that a text writes, with None for what is no row number."""
    tag, *numbers = line.split(" ")
    return tag, tuple([read_number(word, size - 1) for word in numbers])
