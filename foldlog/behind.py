"""Tables made of tables: spliced, put forward and back, and by gaps."""

from foldlog.errors import Beyond, NoMinutes, NoMoment, TooMany
from foldlog.rowlists import check_rows, differences, shortest_rows, summed
from foldlog.tables import MOST_ROWS, Table
from foldlog.words import is_moment, is_shift, is_whole

# Two shifts lie at most so far apart, and two tables have together at most so
# many moments at which a row begins.
WIDEST_GAP = 5760
MOST_GAPS = 41


def table_of(rows):
    for place, row in enumerate(rows):
        if not is_shift(row[1]):
            raise Beyond(place)
    if len(rows) > MOST_ROWS:
        raise TooMany(len(rows))
    return Table(rows)


def spliced(one, other, moment):
    if not is_moment(moment):
        raise NoMoment(moment)
    ahead = [row for row in one.rows() if row[0] < moment]
    behind = [row for row in other.rows() if row[0] > moment]
    return table_of(shortest_rows(ahead + [(moment, other.shift_at(moment))] + behind))


def minutes_from(moment, minutes):
    # A list of rows begins at the moment 0, with one row alone for it.
    return [(0, minutes)] if moment == 0 else [(0, 0), (moment, minutes)]


def put_on(table, moment, minutes):
    if not is_moment(moment):
        raise NoMoment(moment)
    if not is_whole(minutes, -WIDEST_GAP, WIDEST_GAP):
        raise NoMinutes(minutes)
    return table_of(summed(table.rows(), minutes_from(moment, minutes)))


def gaps(one, other):
    return differences(one.rows(), other.rows())


def by_gaps(one, rows):
    check_rows(rows, MOST_GAPS, WIDEST_GAP)
    return table_of(summed(one.rows(), rows))


def led(one, other, reading):
    return [(moment, other.reading(moment)) for moment in one.moments(reading)]
