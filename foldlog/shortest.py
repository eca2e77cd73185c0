"""The shortest table that shows the same, and where two tables do not."""

from foldlog.rowlists import differences, shortest_rows
from foldlog.tables import Table


def shortened(table):
    return Table(shortest_rows(table.rows()))


def first_unlike(one, other):
    for moment, number in differences(one.rows(), other.rows()):
        if number != 0:
            return moment
    return None


def alike(one, other):
    return first_unlike(one, other) is None
