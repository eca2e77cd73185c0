"""Tables as text."""

from foldlog.clocks import clock_in, clock_text, shift_in, shift_text
from foldlog.errors import NoText
from foldlog.tables import Table
from foldlog.words import LAST


def row_text(moment, shift):
    clock = clock_text(moment)
    more = shift_text(shift)
    return f"{clock} {more}"


def table_text(table):
    return "; ".join([row_text(moment, shift) for moment, shift in table.rows()])


def row_in(text):
    words = text.split(" ")
    if len(words) != 2:
        return None
    moment = clock_in(words[0], 0, LAST)
    shift = shift_in(words[1])
    return None if moment is None or shift is None else (moment, shift)


def read_table(text):
    if not isinstance(text, str):
        raise NoText(0)
    rows = []
    for place, part in enumerate(text.split("; ")):
        row = row_in(part)
        if row is None:
            raise NoText(place)
        rows.append(row)
    return Table(rows)
